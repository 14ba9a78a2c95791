/- The lexer's Valid, and the builder's add. Conditions: strings of at most 2^47 bytes, fewer than a thousand million tokens; strconv.ErrRange holds an interface value. -/
import Derived.Test.YtbegenmhfmpgpaaDoorLayW3
namespace Go.Proofs.YtbegenmhfmpgpaaDoor
open Go.RowKit M

theorem item_all (s : ByteArray) (hm : s.size ≤ 140737488355328) (w : World) (hr : RangeVar w) :
    Calls Tryd.prog 26 #[.string s] w fun e w' => e = .returned (itemV3 (itemR s.data.toList) (itemN s.data.toList)) ∧ Below w.heap.size w w' := by
  by_cases h0 : s.size = 0
  · obtain rfl := size_zero s h0
    exact item_none _ rfl rfl w
  · exact item_any s hm (by omega) w hr

theorem valT_int (num : Int) (st : Bs) (er : Int) : valT ⟨2, num, st, er⟩ = (decide (0 ≤ num) && decide (st = [])) := rfl
theorem valT_str {k : Int} (hk : k = 1 ∨ k = 3 ∨ k = 4) (num : Int) (st : Bs) (er : Int) : valT ⟨k, num, st, er⟩ =
    (decide ((itemR st).err = 0) && (decide ((itemR st).kind = k) && (decide ((itemR st).num = num) && decide ((itemR st).str = st)))) := by
  unfold valT
  rw [if_neg (by simp only; omega), if_pos hk]
theorem valT_else {k : Int} (h2 : k ≠ 2) (h : ¬ (k = 1 ∨ k = 3 ∨ k = 4)) (num : Int) (st : Bs) (er : Int) : valT ⟨k, num, st, er⟩ = false := by
  unfold valT
  rw [if_neg h2, if_neg h]

set_option maxRecDepth 100000 in
set_option maxHeartbeats 3200000 in
theorem valid_str (k num : Int) (st : Bs) (er a b : Int) (hk : k = 1 ∨ k = 3 ∨ k = 4) (hs : st.length ≤ 140737488355328) (w : World) (hr : RangeVar w) :
    Calls Tryd.prog 10 #[.agg #[.int .i64 k, .int .i64 num, .string (S st), .int .i64 a, .int .i64 b]] w fun e w' => e = .returned (.bool (valT ⟨k, num, st, er⟩)) ∧ Below w.heap.size w w' := by
  rw [valT_str hk]
  have HI := Lib.hid (fun W h => item_all (S st) hs W h)
  rw [S_toList] at HI
  have HR := Lib.hid hr
  have hk2 : (k == 2) = false := beq_eq_false_iff_ne.2 (by omega)
  have hk3 : (k == 1) = true ∨ ((k == 1) = false ∧ (k == 3) = true) ∨ ((k == 1) = false ∧ (k == 3) = false ∧ (k == 4) = true) := by
    rcases hk with rfl | rfl | rfl
    · left; rfl
    · right; left; exact ⟨rfl, rfl⟩
    · right; right; exact ⟨rfl, rfl, rfl⟩
  generalize itemR st = T at *
  generalize itemN st = N at *
  obtain ⟨K, M, Y, E⟩ := T
  unfold itemV3 at HI
  simp only at HI ⊢
  clear hr hs hk
  have hE : (E ≠ 0) ∨ (E = 0 ∧ K ≠ k) ∨ (E = 0 ∧ K = k ∧ M ≠ num) ∨ (E = 0 ∧ K = k ∧ M = num) := by
    by_cases h1 : E = 0
    · by_cases h2 : K = k
      · by_cases h3 : M = num
        · exact .inr (.inr (.inr ⟨h1, h2, h3⟩))
        · exact .inr (.inr (.inl ⟨h1, h2, h3⟩))
      · exact .inr (.inl ⟨h1, h2⟩)
    · exact .inl h1
  rcases hE with h1 | ⟨h1, h2⟩ | ⟨h1, h2, h3⟩ | ⟨h1, h2, h3⟩
  · have hV : Hid ((decide (E = 0) && (decide (K = k) && (decide (M = num) && decide (Y = st)))) = false) := by unfold Hid; rw [decide_eq_false h1]; rfl
    generalize (decide (E = 0) && (decide (K = k) && (decide (M = num) && decide (Y = st)))) = V at *
    have g1 : (E == 0) = false := beq_eq_false_iff_ne.2 h1
    clear h1
    rcases hk3 with hk3 | ⟨hk3, hk4⟩ | ⟨hk3, hk4, hk5⟩
    all_goals
      go_enter Tryd.func10, Tryd.ntmps10
      go_wp2_with fail
      refine (HI.out _ (HR.out.alloc _)).mono ?_
      rintro e w1 ⟨rfl, hb1⟩
      obtain ⟨hc, hf⟩ := bcell_alloc hb1
      have hz : w.heap.size + 1 ≤ w1.heap.size := by have := hb1.size; simp at this; omega
      go_wp2
      go_ret
      exact ⟨ret_bool hV.out.symm, (((Below.refl _ _).alloc (Nat.le_refl _) _).trans (hb1.mono (by simp))).alloc (by omega) _⟩
  · have hV : Hid ((decide (E = 0) && (decide (K = k) && (decide (M = num) && decide (Y = st)))) = false) := by unfold Hid; rw [decide_eq_false h2]; simp
    generalize (decide (E = 0) && (decide (K = k) && (decide (M = num) && decide (Y = st)))) = V at *
    have g1 : (E == 0) = true := beq_iff_eq.2 h1
    have g2 : (K == k) = false := beq_eq_false_iff_ne.2 h2
    clear h1 h2
    rcases hk3 with hk3 | ⟨hk3, hk4⟩ | ⟨hk3, hk4, hk5⟩
    all_goals
      go_enter Tryd.func10, Tryd.ntmps10
      go_wp2_with fail
      refine (HI.out _ (HR.out.alloc _)).mono ?_
      rintro e w1 ⟨rfl, hb1⟩
      obtain ⟨hc, hf⟩ := bcell_alloc hb1
      have hz : w.heap.size + 1 ≤ w1.heap.size := by have := hb1.size; simp at this; omega
      go_wp2
      go_ret
      exact ⟨ret_bool hV.out.symm, (((Below.refl _ _).alloc (Nat.le_refl _) _).trans (hb1.mono (by simp))).alloc (by omega) _⟩
  · have hV : Hid ((decide (E = 0) && (decide (K = k) && (decide (M = num) && decide (Y = st)))) = false) := by unfold Hid; rw [decide_eq_false h3]; simp
    generalize (decide (E = 0) && (decide (K = k) && (decide (M = num) && decide (Y = st)))) = V at *
    have g1 : (E == 0) = true := beq_iff_eq.2 h1
    have g2 : (K == k) = true := beq_iff_eq.2 h2
    have g3 : (M == num) = false := beq_eq_false_iff_ne.2 h3
    clear h1 h2 h3
    rcases hk3 with hk3 | ⟨hk3, hk4⟩ | ⟨hk3, hk4, hk5⟩
    all_goals
      go_enter Tryd.func10, Tryd.ntmps10
      go_wp2_with fail
      refine (HI.out _ (HR.out.alloc _)).mono ?_
      rintro e w1 ⟨rfl, hb1⟩
      obtain ⟨hc, hf⟩ := bcell_alloc hb1
      have hz : w.heap.size + 1 ≤ w1.heap.size := by have := hb1.size; simp at this; omega
      go_wp2
      go_ret
      exact ⟨ret_bool hV.out.symm, (((Below.refl _ _).alloc (Nat.le_refl _) _).trans (hb1.mono (by simp))).alloc (by omega) _⟩
  · have hV : Hid ((decide (E = 0) && (decide (K = k) && (decide (M = num) && decide (Y = st)))) = (Y == st)) := by
      unfold Hid; rw [decide_eq_true h1, decide_eq_true h2, decide_eq_true h3, Bool.true_and, Bool.true_and, Bool.true_and, beqEq]
    generalize (decide (E = 0) && (decide (K = k) && (decide (M = num) && decide (Y = st)))) = V at *
    have g1 : (E == 0) = true := beq_iff_eq.2 h1
    have g2 : (K == k) = true := beq_iff_eq.2 h2
    have g3 : (M == num) = true := beq_iff_eq.2 h3
    clear h1 h2 h3
    cases dY : (Y == st)
    all_goals
      rw [dY] at hV
      rcases hk3 with hk3 | ⟨hk3, hk4⟩ | ⟨hk3, hk4, hk5⟩
      all_goals
        go_enter Tryd.func10, Tryd.ntmps10
        go_wp2_with fail
        refine (HI.out _ (HR.out.alloc _)).mono ?_
        rintro e w1 ⟨rfl, hb1⟩
        obtain ⟨hc, hf⟩ := bcell_alloc hb1
        have hz : w.heap.size + 1 ≤ w1.heap.size := by have := hb1.size; simp at this; omega
        go_wp2
        go_ret
        exact ⟨ret_bool hV.out.symm, (((Below.refl _ _).alloc (Nat.le_refl _) _).trans (hb1.mono (by simp))).alloc (by omega) _⟩

set_option maxRecDepth 100000 in
set_option maxHeartbeats 3200000 in
theorem valid_any (t : TR) (a b : Int) (hs : t.str.length ≤ 140737488355328) (w : World) (hr : RangeVar w) :
    Calls Tryd.prog 10 #[tkV t a b] w fun e w' => e = .returned (.bool (valT t)) ∧ Below w.heap.size w w' := by
  obtain ⟨k, num, st, er⟩ := t
  by_cases hk : k = 1 ∨ k = 3 ∨ k = 4
  · exact valid_str k num st er a b hk hs w hr
  · show Calls _ _ #[.agg #[.int .i64 k, .int .i64 num, .string (S st), .int .i64 a, .int .i64 b]] _ _
    by_cases h2 : k = 2
    · have hV : Hid (valT ⟨k, num, st, er⟩ = (decide (0 ≤ num) && (st == []))) := by unfold Hid; rw [h2, valT_int, beqEq]
      generalize valT ⟨k, num, st, er⟩ = V at *
      have g1 : (k == 2) = true := beq_iff_eq.2 h2
      have hm : (0 ≤ num ∧ decide (0 ≤ num) = true) ∨ (num < 0 ∧ decide (0 ≤ num) = false) := by
        by_cases h : 0 ≤ num
        · exact .inl ⟨h, decide_eq_true h⟩
        · exact .inr ⟨by omega, decide_eq_false h⟩
      clear hk h2 hr hs
      rcases hm with ⟨h3, h4⟩ | ⟨h3, h4⟩
      · rw [h4, Bool.true_and] at hV
        cases dY : (st == [])
        · have d2 : ¬ st = [] := by intro q; rw [q] at dY; exact absurd dY (by decide)
          have d3 : st.isEmpty = false := by cases st with | nil => exact absurd rfl d2 | cons => rfl
          rw [dY] at hV
          go_enter Tryd.func10, Tryd.ntmps10
          go_wp2
          go_ret
          exact ⟨ret_bool hV.out.symm, (Below.refl _ _).alloc (Nat.le_refl _) _⟩
        · have d2 : st = [] := by simpa using dY
          rw [dY] at hV
          subst d2
          clear dY
          go_enter Tryd.func10, Tryd.ntmps10
          go_wp2
          go_ret
          exact ⟨ret_bool hV.out.symm, (Below.refl _ _).alloc (Nat.le_refl _) _⟩
      · rw [h4, Bool.false_and] at hV
        clear h4
        go_enter Tryd.func10, Tryd.ntmps10
        go_wp2
        go_ret
        exact ⟨ret_bool hV.out.symm, (Below.refl _ _).alloc (Nat.le_refl _) _⟩
    · have hV : Hid (valT ⟨k, num, st, er⟩ = false) := valT_else h2 hk num st er
      generalize valT ⟨k, num, st, er⟩ = V at *
      have g1 : (k == 1) = false := beq_eq_false_iff_ne.2 (fun q => hk (.inl q))
      have g2 : (k == 2) = false := beq_eq_false_iff_ne.2 h2
      have g3 : (k == 3) = false := beq_eq_false_iff_ne.2 (fun q => hk (.inr (.inl q)))
      have g4 : (k == 4) = false := beq_eq_false_iff_ne.2 (fun q => hk (.inr (.inr q)))
      clear hk h2 hr hs
      go_enter Tryd.func10, Tryd.ntmps10
      go_wp2
      go_ret
      exact ⟨ret_bool hV.out.symm, (Below.refl _ _).alloc (Nat.le_refl _) _⟩

end Go.Proofs.YtbegenmhfmpgpaaDoor
