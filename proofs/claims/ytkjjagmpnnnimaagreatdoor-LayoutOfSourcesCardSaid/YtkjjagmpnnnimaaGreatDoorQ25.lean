/- The lexer's Valid, and the builder's add. Conditions: strings of at most 2^47 bytes, fewer than a thousand million tokens; strconv.ErrRange holds an interface value. The program's add: one token of the argument. Conditions: strings of at most 2^47 bytes, fewer than a thousand million tokens; strconv.ErrRange holds an interface value. The program's add where a token is accepted or stands in a wrong column. Conditions: strings of at most 2^47 bytes, fewer than a thousand million tokens; strconv.ErrRange holds an interface value. -/
import Derived.Test.YtkjjagmpnnnimaaGreatDoorQ20
import Derived.Test.YtkjjagmpnnnimaaGreatDoorQ24
namespace Go.Proofs.YtkjjagmpnnnimaaGreatDoor
open Go.RowKit M

theorem item_all (s : ByteArray) (hm : s.size ≤ 140737488355328) (w : World) (hr : RangeVar w) :
    Calls Tryz.prog 66 #[.string s] w fun e w' => e = .returned (itemV3 (itemR s.data.toList) (itemN s.data.toList)) ∧ Below w.heap.size w w' := by
  by_cases h0 : s.size = 0
  · obtain rfl := size_zero s h0
    exact item_none _ rfl rfl w
  · exact item_any s hm (by omega) w hr

theorem valT_int (num : Int) (st : Bs) (er : Int) : valT ⟨2, num, st, er⟩ = (decide (0 ≤ num) && decide (st = [])) := rfl
theorem valT_str {k : Int} (hk : k = 1 ∨ k = 3 ∨ k = 4) (num : Int) (st : Bs) (er : Int) : valT ⟨k, num, st, er⟩ =
    (decide ((itemR st).err = 0) && (decide ((itemR st).kind = k) && (decide ((itemR st).num = num) && decide ((itemR st).str = st)))) := by
  unfold valT
  rw [if_neg (by simp only; omega), if_pos hk]
theorem valT_else {k : Int} (h2 : k ≠ 2) (h : ¬ (k = 1 ∨ k = 3 ∨ k = 4)) (num : Int) (st : Bs) (er : Int) : valT ⟨k, num, st, er⟩ = false := by
  unfold valT
  rw [if_neg h2, if_neg h]

set_option maxRecDepth 100000 in
set_option maxHeartbeats 3200000 in
theorem valid_str (k num : Int) (st : Bs) (er a b : Int) (hk : k = 1 ∨ k = 3 ∨ k = 4) (hs : st.length ≤ 140737488355328) (w : World) (hr : RangeVar w) :
    Calls Tryz.prog 57 #[.agg #[.int .i64 k, .int .i64 num, .string (S st), .int .i64 a, .int .i64 b]] w fun e w' => e = .returned (.bool (valT ⟨k, num, st, er⟩)) ∧ Below w.heap.size w w' := by
  rw [valT_str hk]
  have HI := Lib.hid (fun W h => item_all (S st) hs W h)
  rw [S_toList] at HI
  have HR := Lib.hid hr
  have hk2 : (k == 2) = false := beq_eq_false_iff_ne.2 (by omega)
  have hk3 : (k == 1) = true ∨ ((k == 1) = false ∧ (k == 3) = true) ∨ ((k == 1) = false ∧ (k == 3) = false ∧ (k == 4) = true) := by
    rcases hk with rfl | rfl | rfl
    · left; rfl
    · right; left; exact ⟨rfl, rfl⟩
    · right; right; exact ⟨rfl, rfl, rfl⟩
  generalize itemR st = T at *
  generalize itemN st = N at *
  obtain ⟨K, M, Y, E⟩ := T
  unfold itemV3 at HI
  simp only at HI ⊢
  clear hr hs hk
  have hE : (E ≠ 0) ∨ (E = 0 ∧ K ≠ k) ∨ (E = 0 ∧ K = k ∧ M ≠ num) ∨ (E = 0 ∧ K = k ∧ M = num) := by
    by_cases h1 : E = 0
    · by_cases h2 : K = k
      · by_cases h3 : M = num
        · exact .inr (.inr (.inr ⟨h1, h2, h3⟩))
        · exact .inr (.inr (.inl ⟨h1, h2, h3⟩))
      · exact .inr (.inl ⟨h1, h2⟩)
    · exact .inl h1
  rcases hE with h1 | ⟨h1, h2⟩ | ⟨h1, h2, h3⟩ | ⟨h1, h2, h3⟩
  · have hV : Hid ((decide (E = 0) && (decide (K = k) && (decide (M = num) && decide (Y = st)))) = false) := by unfold Hid; rw [decide_eq_false h1]; rfl
    generalize (decide (E = 0) && (decide (K = k) && (decide (M = num) && decide (Y = st)))) = V at *
    have g1 : (E == 0) = false := beq_eq_false_iff_ne.2 h1
    clear h1
    rcases hk3 with hk3 | ⟨hk3, hk4⟩ | ⟨hk3, hk4, hk5⟩
    all_goals
      go_enter Tryz.func57, Tryz.ntmps57
      go_wp2_with fail
      refine (HI.out _ (HR.out.alloc _)).mono ?_
      rintro e w1 ⟨rfl, hb1⟩
      obtain ⟨hc, hf⟩ := bcell_alloc hb1
      have hz : w.heap.size + 1 ≤ w1.heap.size := by have := hb1.size; simp at this; omega
      go_wp2
      go_ret
      exact ⟨ret_bool hV.out.symm, (((Below.refl _ _).alloc (Nat.le_refl _) _).trans (hb1.mono (by simp))).alloc (by omega) _⟩
  · have hV : Hid ((decide (E = 0) && (decide (K = k) && (decide (M = num) && decide (Y = st)))) = false) := by unfold Hid; rw [decide_eq_false h2]; simp
    generalize (decide (E = 0) && (decide (K = k) && (decide (M = num) && decide (Y = st)))) = V at *
    have g1 : (E == 0) = true := beq_iff_eq.2 h1
    have g2 : (K == k) = false := beq_eq_false_iff_ne.2 h2
    clear h1 h2
    rcases hk3 with hk3 | ⟨hk3, hk4⟩ | ⟨hk3, hk4, hk5⟩
    all_goals
      go_enter Tryz.func57, Tryz.ntmps57
      go_wp2_with fail
      refine (HI.out _ (HR.out.alloc _)).mono ?_
      rintro e w1 ⟨rfl, hb1⟩
      obtain ⟨hc, hf⟩ := bcell_alloc hb1
      have hz : w.heap.size + 1 ≤ w1.heap.size := by have := hb1.size; simp at this; omega
      go_wp2
      go_ret
      exact ⟨ret_bool hV.out.symm, (((Below.refl _ _).alloc (Nat.le_refl _) _).trans (hb1.mono (by simp))).alloc (by omega) _⟩
  · have hV : Hid ((decide (E = 0) && (decide (K = k) && (decide (M = num) && decide (Y = st)))) = false) := by unfold Hid; rw [decide_eq_false h3]; simp
    generalize (decide (E = 0) && (decide (K = k) && (decide (M = num) && decide (Y = st)))) = V at *
    have g1 : (E == 0) = true := beq_iff_eq.2 h1
    have g2 : (K == k) = true := beq_iff_eq.2 h2
    have g3 : (M == num) = false := beq_eq_false_iff_ne.2 h3
    clear h1 h2 h3
    rcases hk3 with hk3 | ⟨hk3, hk4⟩ | ⟨hk3, hk4, hk5⟩
    all_goals
      go_enter Tryz.func57, Tryz.ntmps57
      go_wp2_with fail
      refine (HI.out _ (HR.out.alloc _)).mono ?_
      rintro e w1 ⟨rfl, hb1⟩
      obtain ⟨hc, hf⟩ := bcell_alloc hb1
      have hz : w.heap.size + 1 ≤ w1.heap.size := by have := hb1.size; simp at this; omega
      go_wp2
      go_ret
      exact ⟨ret_bool hV.out.symm, (((Below.refl _ _).alloc (Nat.le_refl _) _).trans (hb1.mono (by simp))).alloc (by omega) _⟩
  · have hV : Hid ((decide (E = 0) && (decide (K = k) && (decide (M = num) && decide (Y = st)))) = (Y == st)) := by
      unfold Hid; rw [decide_eq_true h1, decide_eq_true h2, decide_eq_true h3, Bool.true_and, Bool.true_and, Bool.true_and, beqEq]
    generalize (decide (E = 0) && (decide (K = k) && (decide (M = num) && decide (Y = st)))) = V at *
    have g1 : (E == 0) = true := beq_iff_eq.2 h1
    have g2 : (K == k) = true := beq_iff_eq.2 h2
    have g3 : (M == num) = true := beq_iff_eq.2 h3
    clear h1 h2 h3
    cases dY : (Y == st)
    all_goals
      rw [dY] at hV
      rcases hk3 with hk3 | ⟨hk3, hk4⟩ | ⟨hk3, hk4, hk5⟩
      all_goals
        go_enter Tryz.func57, Tryz.ntmps57
        go_wp2_with fail
        refine (HI.out _ (HR.out.alloc _)).mono ?_
        rintro e w1 ⟨rfl, hb1⟩
        obtain ⟨hc, hf⟩ := bcell_alloc hb1
        have hz : w.heap.size + 1 ≤ w1.heap.size := by have := hb1.size; simp at this; omega
        go_wp2
        go_ret
        exact ⟨ret_bool hV.out.symm, (((Below.refl _ _).alloc (Nat.le_refl _) _).trans (hb1.mono (by simp))).alloc (by omega) _⟩

set_option maxRecDepth 100000 in
set_option maxHeartbeats 3200000 in
theorem valid_any (t : TR) (a b : Int) (hs : t.str.length ≤ 140737488355328) (w : World) (hr : RangeVar w) :
    Calls Tryz.prog 57 #[tkV t a b] w fun e w' => e = .returned (.bool (valT t)) ∧ Below w.heap.size w w' := by
  obtain ⟨k, num, st, er⟩ := t
  by_cases hk : k = 1 ∨ k = 3 ∨ k = 4
  · exact valid_str k num st er a b hk hs w hr
  · show Calls _ _ #[.agg #[.int .i64 k, .int .i64 num, .string (S st), .int .i64 a, .int .i64 b]] _ _
    by_cases h2 : k = 2
    · have hV : Hid (valT ⟨k, num, st, er⟩ = (decide (0 ≤ num) && (st == []))) := by unfold Hid; rw [h2, valT_int, beqEq]
      generalize valT ⟨k, num, st, er⟩ = V at *
      have g1 : (k == 2) = true := beq_iff_eq.2 h2
      have hm : (0 ≤ num ∧ decide (0 ≤ num) = true) ∨ (num < 0 ∧ decide (0 ≤ num) = false) := by
        by_cases h : 0 ≤ num
        · exact .inl ⟨h, decide_eq_true h⟩
        · exact .inr ⟨by omega, decide_eq_false h⟩
      clear hk h2 hr hs
      rcases hm with ⟨h3, h4⟩ | ⟨h3, h4⟩
      · rw [h4, Bool.true_and] at hV
        cases dY : (st == [])
        · have d2 : ¬ st = [] := by intro q; rw [q] at dY; exact absurd dY (by decide)
          have d3 : st.isEmpty = false := by cases st with | nil => exact absurd rfl d2 | cons => rfl
          rw [dY] at hV
          go_enter Tryz.func57, Tryz.ntmps57
          go_wp2
          go_ret
          exact ⟨ret_bool hV.out.symm, (Below.refl _ _).alloc (Nat.le_refl _) _⟩
        · have d2 : st = [] := by simpa using dY
          rw [dY] at hV
          subst d2
          clear dY
          go_enter Tryz.func57, Tryz.ntmps57
          go_wp2
          go_ret
          exact ⟨ret_bool hV.out.symm, (Below.refl _ _).alloc (Nat.le_refl _) _⟩
      · rw [h4, Bool.false_and] at hV
        clear h4
        go_enter Tryz.func57, Tryz.ntmps57
        go_wp2
        go_ret
        exact ⟨ret_bool hV.out.symm, (Below.refl _ _).alloc (Nat.le_refl _) _⟩
    · have hV : Hid (valT ⟨k, num, st, er⟩ = false) := valT_else h2 hk num st er
      generalize valT ⟨k, num, st, er⟩ = V at *
      have g1 : (k == 1) = false := beq_eq_false_iff_ne.2 (fun q => hk (.inl q))
      have g2 : (k == 2) = false := beq_eq_false_iff_ne.2 h2
      have g3 : (k == 3) = false := beq_eq_false_iff_ne.2 (fun q => hk (.inr (.inl q)))
      have g4 : (k == 4) = false := beq_eq_false_iff_ne.2 (fun q => hk (.inr (.inr q)))
      clear hk h2 hr hs
      go_enter Tryz.func57, Tryz.ntmps57
      go_wp2
      go_ret
      exact ⟨ret_bool hV.out.symm, (Below.refl _ _).alloc (Nat.le_refl _) _⟩

end Go.Proofs.YtkjjagmpnnnimaaGreatDoor

namespace Go.Proofs.YtkjjagmpnnnimaaGreatDoor
open Go.RowKit M

/-- the five cells of a token's box and the builder's last position -/
def SevenAt (g bx : Nat) (t : TR) (a b la lb : Int) (W : World) : Prop :=
  W.cell? ⟨bx, 0, none⟩ = some (.int .i64 t.kind) ∧ W.cell? ⟨bx, 1, none⟩ = some (.int .i64 t.num) ∧ W.cell? ⟨bx, 2, none⟩ = some (.string (S t.str)) ∧
    W.cell? ⟨bx, 3, none⟩ = some (.int .i64 a) ∧ W.cell? ⟨bx, 4, none⟩ = some (.int .i64 b) ∧ W.cell? ⟨g, 2, none⟩ = some (.int .i64 la) ∧ W.cell? ⟨g, 3, none⟩ = some (.int .i64 lb)
theorem SevenAt.below {g bx : Nat} {t : TR} {a b la lb : Int} {W W' : World} (h : SevenAt g bx t a b la lb W) (hg : g < W.heap.size) (hb : bx < W.heap.size) (hw : Below W.heap.size W W') : SevenAt g bx t a b la lb W' :=
  ⟨(hw.cell (p := ⟨bx, 0, none⟩) hb).trans h.1, (hw.cell (p := ⟨bx, 1, none⟩) hb).trans h.2.1, (hw.cell (p := ⟨bx, 2, none⟩) hb).trans h.2.2.1, (hw.cell (p := ⟨bx, 3, none⟩) hb).trans h.2.2.2.1, (hw.cell (p := ⟨bx, 4, none⟩) hb).trans h.2.2.2.2.1,
    (hw.cell (p := ⟨g, 2, none⟩) hg).trans h.2.2.2.2.2.1, (hw.cell (p := ⟨g, 3, none⟩) hg).trans h.2.2.2.2.2.2⟩
/-- Valid, with the cells that the region beside it reads -/
theorem valid_held (t : TR) (a b la lb : Int) (hs : t.str.length ≤ 140737488355328) (g bx : Nat) (W : World) (hr : RangeVar W) (hg : g < W.heap.size) (hb : bx < W.heap.size) (h : SevenAt g bx t a b la lb W) :
    Calls Tryz.prog 57 #[tkV t a b] W fun e w' => e = .returned (.bool (valT t)) ∧ SevenAt g bx t a b la lb w' ∧ Below W.heap.size W w' :=
  (valid_any t a b hs W hr).mono fun _ _ ⟨he, hw⟩ => ⟨he, h.below hg hb hw, hw⟩
theorem after_held (t : TR) (a b la lb : Int) (g bx : Nat) (W : World) (hg : g < W.heap.size) (hb : bx < W.heap.size) (h : SevenAt g bx t a b la lb W) :
    Calls Tryz.prog 58 #[posV a b, posV la lb] W fun e w' => e = .returned (.bool (isAft (a, b) (la, lb))) ∧ SevenAt g bx t a b la lb w' ∧ Below W.heap.size W w' :=
  (after_any W (a, b) (la, lb)).mono fun _ _ ⟨he, hw⟩ => ⟨he, h.below hg hb hw, hw⟩

theorem RangeVar.drew {w : World} (h : RangeVar w) : RangeVar w.drew := h.below (below_drew (Below.refl _ _))
theorem RangeVar.drewN {w : World} (h : RangeVar w) (n : Nat) : RangeVar (w.drewN n) := h.below ⟨rfl, rfl, rfl, Nat.le_refl _, fun _ _ => rfl⟩
def AddPost (w : World) (Pr : Nat → Prop) (g : Nat) (r : Int × LSt) (e : Ending) (w' : World) : Prop :=
  e = .returned (.int .i64 r.1) ∧ (r.1 = 0 → BSt w' Pr g r.2) ∧ Keep Pr w w'

set_option maxRecDepth 100000 in
set_option maxHeartbeats 3200000 in
theorem add_bad (w : World) (Pr : Nat → Prop) (g : Nat) (s : LSt) (t : TR) (a b : Int) (h : BSt w Pr g s) (hr : RangeVar w) (hs : t.str.length ≤ 140737488355328)
    (hV : valT t = false) : Calls Tryz.prog 46 #[.pointer (some ⟨g, 0, none⟩), tkV t a b] w (AddPost w Pr g (1, s)) := by
  have HL := Lib.hid h.lt
  have HB0 := Lib.hid (h.more (.cells #[.int .i64 t.kind, .int .i64 t.num, .string (S t.str), .int .i64 a, .int .i64 b] 37))
  have HR := Lib.hid hr
  obtain ⟨vt, vc, hBA⟩ := HB0.out
  have k2 : (w.alloc (.cells #[.int .i64 t.kind, .int .i64 t.num, .string (S t.str), .int .i64 a, .int .i64 b] 37)).cell? ⟨g, 2, none⟩ = some (.int .i64 s.last.1) := hBA.blk.cell 2
  have k3 : (w.alloc (.cells #[.int .i64 t.kind, .int .i64 t.num, .string (S t.str), .int .i64 a, .int .i64 b] 37)).cell? ⟨g, 3, none⟩ = some (.int .i64 s.last.2) := hBA.blk.cell 3
  have hgl : g < w.heap.size := by obtain ⟨_, _, q⟩ := h; exact q.blk.lt
  have HVH := Lib.hid (fun W h => valid_any t a b hs W h)
  rw [hV] at HVH
  clear h hr hs hV hBA
  go_enter Tryz.func46, Tryz.ntmps46
  go_wp2_with fail
  first | go_region_with (go_at_call 57; refine (HVH.out _ ?_).mono ?_; (exact (HR.out.alloc _).drew); rintro e w1 ⟨rfl, hb1⟩) | done
  all_goals
    go_wp2
    go_ret
    exact ⟨rfl, fun q => absurd q (by simp), ((Keep.refl Pr w).alloc HL.out _).drew.trans (Keep.below hb1 (fun k hk => by have := HL.out k hk; simp; omega))⟩

theorem seven_open {g bx : Nat} {t : TR} {a b la lb : Int} {W : World} (h : SevenAt g bx t a b la lb W) :
    W.cell? ⟨bx, 0, none⟩ = some (.int .i64 t.kind) ∧ W.cell? ⟨bx, 1, none⟩ = some (.int .i64 t.num) ∧ W.cell? ⟨bx, 2, none⟩ = some (.string (S t.str)) ∧
    W.cell? ⟨bx, 3, none⟩ = some (.int .i64 a) ∧ W.cell? ⟨bx, 4, none⟩ = some (.int .i64 b) ∧ W.cell? ⟨g, 2, none⟩ = some (.int .i64 la) ∧ W.cell? ⟨g, 3, none⟩ = some (.int .i64 lb) := h

set_option maxRecDepth 100000 in
set_option maxHeartbeats 3200000 in
theorem add_bad2 (w : World) (Pr : Nat → Prop) (g : Nat) (s : LSt) (t : TR) (a b : Int) (h : BSt w Pr g s) (hr : RangeVar w) (hs : t.str.length ≤ 140737488355328)
    (hV : valT t = true) (hA : isAft (a, b) s.last = false) : Calls Tryz.prog 46 #[.pointer (some ⟨g, 0, none⟩), tkV t a b] w (AddPost w Pr g (1, s)) := by
  have HL := Lib.hid h.lt
  have HB0 := Lib.hid (h.more (.cells #[.int .i64 t.kind, .int .i64 t.num, .string (S t.str), .int .i64 a, .int .i64 b] 37))
  have HR := Lib.hid hr
  obtain ⟨out, cols, ⟨la, lb⟩, it, li⟩ := s
  obtain ⟨vt, vc, hBA⟩ := HB0.out
  have k2 : (w.alloc (.cells #[.int .i64 t.kind, .int .i64 t.num, .string (S t.str), .int .i64 a, .int .i64 b] 37)).cell? ⟨g, 2, none⟩ = some (.int .i64 la) := hBA.blk.cell 2
  have k3 : (w.alloc (.cells #[.int .i64 t.kind, .int .i64 t.num, .string (S t.str), .int .i64 a, .int .i64 b] 37)).cell? ⟨g, 3, none⟩ = some (.int .i64 lb) := hBA.blk.cell 3
  have hgl : g < w.heap.size := by obtain ⟨_, _, q⟩ := h; exact q.blk.lt
  have HVH := Lib.hid (fun W => valid_held t a b la lb hs g w.heap.size W)
  have HAH := Lib.hid (fun W => after_held t a b la lb g w.heap.size W)
  rw [hV] at HVH
  rw [hA] at HAH
  clear h hr hs hV hA hBA
  go_enter Tryz.func46, Tryz.ntmps46
  go_wp2_with fail
  go_region_held3 (fun W => W.cell? ⟨w.heap.size, 0, none⟩ = some (.int .i64 t.kind) ∧ W.cell? ⟨w.heap.size, 1, none⟩ = some (.int .i64 t.num) ∧ W.cell? ⟨w.heap.size, 2, none⟩ = some (.string (S t.str)) ∧
    W.cell? ⟨w.heap.size, 3, none⟩ = some (.int .i64 a) ∧ W.cell? ⟨w.heap.size, 4, none⟩ = some (.int .i64 b) ∧ W.cell? ⟨g, 2, none⟩ = some (.int .i64 la) ∧ W.cell? ⟨g, 3, none⟩ = some (.int .i64 lb)) (first | go_keep | exact hsev1 | exact hsev2)
    (first | (go_at_call 57; refine (HVH.out _ ?_ ?_ ?_ ?_).mono ?_; (exact (HR.out.alloc _).drew); (simp; omega); (simp); (refine ⟨?_, ?_, ?_, ?_, ?_, ?_, ?_⟩ <;> simp [*]); rintro e w1 ⟨rfl, hsev1, hb1⟩) | (go_at_call 58; refine (HAH.out _ ?_ ?_ ?_).mono ?_; (have := hb1.size; simp at this; omega); (have := hb1.size; simp at this; omega); (exact hsev1); rintro e w2 ⟨rfl, hsev2, hb2⟩))
  go_wp2
  go_ret
  exact ⟨rfl, fun q => absurd q (by simp), (((Keep.refl Pr w).alloc HL.out _).drew.trans (Keep.below hb1 (fun k hk => by have := HL.out k hk; simp; omega))).trans (Keep.below hb2 (fun k hk => by have := HL.out k hk; have := hb1.size; simp at this; omega))⟩

end Go.Proofs.YtkjjagmpnnnimaaGreatDoor

namespace Go.Proofs.YtkjjagmpnnnimaaGreatDoor
open Go.RowKit M

theorem proceed_any (w : World) (Pr : Nat → Prop) (g : Nat) (s : LSt) (t : TR) (a b : Int) (st : Bool) (h : BSt w Pr g s) (hl : s.cols.getLast? = some 1) (hb : 1 ≤ b) (hn : s.out.length + s.cols.length ≤ 999999998) :
    Calls Tryz.prog 61 #[.pointer (some ⟨g, 0, none⟩), tkV t a b, .bool st] w
      (BPost w Pr g { s with out := (procL s.out s.cols (t, (a, b)) st).1, cols := (procL s.out s.cols (t, (a, b)) st).2 }) := by
  cases st
  · exact proceed_same w Pr g s t a b h (by intro q; rw [q] at hl; simp at hl) hn
  · exact proceed_line w Pr g s t a b h hl hb hn

set_option maxRecDepth 100000 in
set_option maxHeartbeats 6400000 in
theorem add_first_bad (w : World) (Pr : Nat → Prop) (g : Nat) (out : List Tok) (cols : List Int) (it li : Int × Int) (t : TR) (a b : Int) (h : BSt w Pr g ⟨out, cols, (0, 0), it, li⟩) (hr : RangeVar w) (hs : t.str.length ≤ 140737488355328)
    (hV : valT t = true) (hA : isAft (a, b) (0, 0) = true) (hb1' : b ≠ 1) :
    Calls Tryz.prog 46 #[.pointer (some ⟨g, 0, none⟩), tkV t a b] w (AddPost w Pr g (3, ⟨out, cols, (0, 0), it, li⟩)) := by
  have HX := Lib.hid hb1'
  clear hb1'
  have HL := Lib.hid h.lt
  have HB0 := Lib.hid (h.more (.cells #[.int .i64 t.kind, .int .i64 t.num, .string (S t.str), .int .i64 a, .int .i64 b] 37))
  have HR := Lib.hid hr
  obtain ⟨vt, vc, hBA⟩ := HB0.out
  have k2 : (w.alloc (.cells #[.int .i64 t.kind, .int .i64 t.num, .string (S t.str), .int .i64 a, .int .i64 b] 37)).cell? ⟨g, 2, none⟩ = some (.int .i64 0) := hBA.blk.cell 2
  have k3 : (w.alloc (.cells #[.int .i64 t.kind, .int .i64 t.num, .string (S t.str), .int .i64 a, .int .i64 b] 37)).cell? ⟨g, 3, none⟩ = some (.int .i64 0) := hBA.blk.cell 3
  have hgl : g < w.heap.size := by obtain ⟨_, _, q⟩ := h; exact q.blk.lt
  have hne : ¬ w.heap.size = g := by omega
  have hne2 : ¬ g = w.heap.size := by omega
  have HVH := Lib.hid (fun W => valid_held t a b 0 0 hs g w.heap.size W)
  have HAH := Lib.hid (fun W => after_held t a b 0 0 g w.heap.size W)
  rw [hV] at HVH
  rw [hA] at HAH
  clear h hr hs hV hA hBA
  go_enter Tryz.func46, Tryz.ntmps46
  go_wp2_with fail
  go_region_held3 (fun W => W.cell? ⟨w.heap.size, 0, none⟩ = some (.int .i64 t.kind) ∧ W.cell? ⟨w.heap.size, 1, none⟩ = some (.int .i64 t.num) ∧ W.cell? ⟨w.heap.size, 2, none⟩ = some (.string (S t.str)) ∧
    W.cell? ⟨w.heap.size, 3, none⟩ = some (.int .i64 a) ∧ W.cell? ⟨w.heap.size, 4, none⟩ = some (.int .i64 b) ∧ W.cell? ⟨g, 2, none⟩ = some (.int .i64 0) ∧ W.cell? ⟨g, 3, none⟩ = some (.int .i64 0)) (first | go_keep | exact hsev1 | exact hsev2)
    (first | (go_at_call 57; refine (HVH.out _ ?_ ?_ ?_ ?_).mono ?_; (exact (HR.out.alloc _).drew); (simp; omega); (simp); (refine ⟨?_, ?_, ?_, ?_, ?_, ?_, ?_⟩ <;> simp [*]); rintro e w1 ⟨rfl, hsev1, hb1⟩) | (go_at_call 58; refine (HAH.out _ ?_ ?_ ?_).mono ?_; (have := hb1.size; simp at this; omega); (have := hb1.size; simp at this; omega); (exact hsev1); rintro e w2 ⟨rfl, hsev2, hb2⟩))
  have hz1 := hb1.size
  have hz2 := hb2.size
  simp at hz1
  have HB2 : Hid (BSt w2 (orOne Pr w.heap.size) g ⟨out, cols, (0, 0), it, li⟩) := by
    obtain ⟨vt, vc, q⟩ := HB0.out
    exact ⟨vt, vc, (q.drew.below hb1).below hb2⟩
  have HK2 : Hid (Keep (orOne Pr w.heap.size) (w.alloc (.cells #[.int .i64 t.kind, .int .i64 t.num, .string (S t.str), .int .i64 a, .int .i64 b] 37)) w2) :=
    (((Keep.refl (orOne Pr w.heap.size) (w.alloc (.cells #[.int .i64 t.kind, .int .i64 t.num, .string (S t.str), .int .i64 a, .int .i64 b] 37))).drew).trans (Keep.below hb1 (fun k hk => by have := HB0.out.lt k hk; simpa using this))).trans
      (Keep.below hb2 (fun k hk => by have := HB0.out.lt k hk; simp at this; omega))
  obtain ⟨c0, c1, c2, c3, c4, c5, c6⟩ := seven_open hsev2
  clear k2 k3 hsev1 hsev2 hb1 hb2 HVH HAH HR
  have g1 : (b != 1) = true := by have := HX.out; simp [this]
  go_wp2_with fail
  go_quiet (fail)
  go_wp2
  go_ret
  exact ⟨rfl, fun q => absurd q (by simp), keep_box HL.out (HK2.out.drewN _)⟩


set_option maxRecDepth 100000 in
set_option maxHeartbeats 6400000 in
theorem add_first (w : World) (Pr : Nat → Prop) (g : Nat) (out : List Tok) (cols : List Int) (it li : Int × Int) (t : TR) (a : Int) (h : BSt w Pr g ⟨out, cols, (0, 0), it, li⟩) (hr : RangeVar w) (hs : t.str.length ≤ 140737488355328)
    (hV : valT t = true) (hA : isAft (a, 1) (0, 0) = true) (hn : out.length ≤ 999999990) :
    Calls Tryz.prog 46 #[.pointer (some ⟨g, 0, none⟩), tkV t a 1] w (AddPost w Pr g (0, finL out cols it li (t, (a, 1)))) := by
  have HL := Lib.hid h.lt
  have HB0 := Lib.hid (h.more (.cells #[.int .i64 t.kind, .int .i64 t.num, .string (S t.str), .int .i64 a, .int .i64 1] 37))
  have HR := Lib.hid hr
  obtain ⟨vt, vc, hBA⟩ := HB0.out
  have k2 : (w.alloc (.cells #[.int .i64 t.kind, .int .i64 t.num, .string (S t.str), .int .i64 a, .int .i64 1] 37)).cell? ⟨g, 2, none⟩ = some (.int .i64 0) := hBA.blk.cell 2
  have k3 : (w.alloc (.cells #[.int .i64 t.kind, .int .i64 t.num, .string (S t.str), .int .i64 a, .int .i64 1] 37)).cell? ⟨g, 3, none⟩ = some (.int .i64 0) := hBA.blk.cell 3
  have hgl : g < w.heap.size := by obtain ⟨_, _, q⟩ := h; exact q.blk.lt
  have hne : ¬ w.heap.size = g := by omega
  have hne2 : ¬ g = w.heap.size := by omega
  have HVH := Lib.hid (fun W => valid_held t a 1 0 0 hs g w.heap.size W)
  have HAH := Lib.hid (fun W => after_held t a 1 0 0 g w.heap.size W)
  rw [hV] at HVH
  rw [hA] at HAH
  clear h hr hs hV hA hBA
  go_enter Tryz.func46, Tryz.ntmps46
  go_wp2_with fail
  go_region_held3 (fun W => W.cell? ⟨w.heap.size, 0, none⟩ = some (.int .i64 t.kind) ∧ W.cell? ⟨w.heap.size, 1, none⟩ = some (.int .i64 t.num) ∧ W.cell? ⟨w.heap.size, 2, none⟩ = some (.string (S t.str)) ∧
    W.cell? ⟨w.heap.size, 3, none⟩ = some (.int .i64 a) ∧ W.cell? ⟨w.heap.size, 4, none⟩ = some (.int .i64 1) ∧ W.cell? ⟨g, 2, none⟩ = some (.int .i64 0) ∧ W.cell? ⟨g, 3, none⟩ = some (.int .i64 0)) (first | go_keep | exact hsev1 | exact hsev2)
    (first | (go_at_call 57; refine (HVH.out _ ?_ ?_ ?_ ?_).mono ?_; (exact (HR.out.alloc _).drew); (simp; omega); (simp); (refine ⟨?_, ?_, ?_, ?_, ?_, ?_, ?_⟩ <;> simp [*]); rintro e w1 ⟨rfl, hsev1, hb1⟩) | (go_at_call 58; refine (HAH.out _ ?_ ?_ ?_).mono ?_; (have := hb1.size; simp at this; omega); (have := hb1.size; simp at this; omega); (exact hsev1); rintro e w2 ⟨rfl, hsev2, hb2⟩))
  have hz1 := hb1.size
  have hz2 := hb2.size
  simp at hz1
  have HB2 : Hid (BSt w2 (orOne Pr w.heap.size) g ⟨out, cols, (0, 0), it, li⟩) := by
    obtain ⟨vt, vc, q⟩ := HB0.out
    exact ⟨vt, vc, (q.drew.below hb1).below hb2⟩
  have HK2 : Hid (Keep (orOne Pr w.heap.size) (w.alloc (.cells #[.int .i64 t.kind, .int .i64 t.num, .string (S t.str), .int .i64 a, .int .i64 1] 37)) w2) :=
    (((Keep.refl (orOne Pr w.heap.size) (w.alloc (.cells #[.int .i64 t.kind, .int .i64 t.num, .string (S t.str), .int .i64 a, .int .i64 1] 37))).drew).trans (Keep.below hb1 (fun k hk => by have := HB0.out.lt k hk; simpa using this))).trans
      (Keep.below hb2 (fun k hk => by have := HB0.out.lt k hk; simp at this; omega))
  obtain ⟨c0, c1, c2, c3, c4, c5, c6⟩ := seven_open hsev2
  clear k2 k3 hsev1 hsev2 hb1 hb2 HVH HAH HR
  go_wp2_with fail
  go_quiet (fail)
  have HB4 := Lib.hid (HB2.out.drewN nq)
  have HK4 := Lib.hid (HK2.out.drewN nq)
  generalize w2.drewN nq = w4 at *
  obtain ⟨vt3, vc3, hB3⟩ := HB4.out
  obtain ⟨A3, cc3, rfl⟩ := owns_form hB3.rt
  obtain ⟨i0, hi0, hz0, hzz1, hzz2⟩ := info_parts token_info
  have m0 : w4.cell? ⟨g, 0, none⟩ = some (.slice A3 _ cc3) := hB3.blk.cell 0
  have ag := hB3.gt
  have hg3 : g < w4.heap.size := hB3.blk.lt
  have hbx : w.heap.size < w4.heap.size := hB3.lt _ (.inr rfl)
  have d0 : w4.cell? ⟨w.heap.size, 0, none⟩ = some (.int .i64 t.kind) := box_cell HK4.out 0
  have d1 : w4.cell? ⟨w.heap.size, 1, none⟩ = some (.int .i64 t.num) := box_cell HK4.out 1
  have d2 : w4.cell? ⟨w.heap.size, 2, none⟩ = some (.string (S t.str)) := box_cell HK4.out 2
  have d3 : w4.cell? ⟨w.heap.size, 3, none⟩ = some (.int .i64 a) := box_cell HK4.out 3
  have d4 : w4.cell? ⟨w.heap.size, 4, none⟩ = some (.int .i64 1) := box_cell HK4.out 4
  have HB3 := Lib.hid hB3
  clear hB3
  go_wp2_with fail
  go_region_law
    ((refine step_append_lies _ (by rfl) _ _ _ (by rfl) 0 37 i0 _ 5 48 Tryz.underlying23 hi0 hz0 hzz1 hzz2 rfl (by omega) (.slice A3 _ cc3) _ _ (by rfl) ((HB3.out.rt.alloc _).drew)
        ⟨w4.heap.size, 0, none⟩ 1 1 (tokCells (t, (a, 1))) (by rfl) (by rfl) (World.news_of_block (cs := #[.int .i64 t.kind, .int .i64 t.num, .string (S t.str), .int .i64 a, .int .i64 1]) (t := 37) (fr := (0, 0)) (heap_alloc_new w4 _)) (tok_one _)
        (by omega) (by show out.length + 1 ≤ maxLen; unfold maxLen; omega) (by show (out.length + 1) * 48 ≤ 140737488355328; omega) (by simp) (w4.heap.size + 1) (by simp) ?_; intro gg cap w5 hown5 hgrow hat hlt; have hfz : w5.frozen? ⟨g, 0, none⟩ = false := (hgrow.frozen_far ⟨g, 0, none⟩ (by simp; omega) (Ne.symm ag)).trans (((HB3.out.alloc _).drew).blk.frozen 0); have hcz : w5.cell? ⟨g, 0, none⟩ = some (.slice A3 _ cc3) := (hgrow.cell_far ⟨g, 0, none⟩ (by simp; omega) (Ne.symm ag)).trans (((HB3.out.alloc _).drew).blk.cell 0)))
  all_goals
    have hE := push_end (HB3.out.alloc (.cells #[.int .i64 t.kind, .int .i64 t.num, .string (S t.str), .int .i64 a, .int .i64 1] 37)).drew (t, (a, 1)) hown5 hgrow (hat.imp id (fun q => by simp; omega))
    generalize w5.setCell ⟨g, 0, none⟩ (.slice (some ⟨gg, 0, none⟩) (_ + 1) cap) = w6 at *
    obtain ⟨⟨vt6, vc6, hB6⟩, hK6⟩ := hE
    have HK6 : Hid (Keep (orOne Pr w.heap.size) (w.alloc (.cells #[.int .i64 t.kind, .int .i64 t.num, .string (S t.str), .int .i64 a, .int .i64 1] 37)) w6) := HK4.out.trans ((((Keep.refl (orOne Pr w.heap.size) w4).alloc HB3.out.lt _).drew).trans hK6)
    have j0 : w6.cell? ⟨w.heap.size, 0, none⟩ = some (.int .i64 t.kind) := box_cell HK6.out 0
    have j1 : w6.cell? ⟨w.heap.size, 1, none⟩ = some (.int .i64 t.num) := box_cell HK6.out 1
    have j2 : w6.cell? ⟨w.heap.size, 2, none⟩ = some (.string (S t.str)) := box_cell HK6.out 2
    have j3 : w6.cell? ⟨w.heap.size, 3, none⟩ = some (.int .i64 a) := box_cell HK6.out 3
    have j4 : w6.cell? ⟨w.heap.size, 4, none⟩ = some (.int .i64 1) := box_cell HK6.out 4
    have n2 : w6.cell? ⟨g, 2, none⟩ = some (.int .i64 0) := hB6.blk.cell 2
    have n3 : w6.cell? ⟨g, 3, none⟩ = some (.int .i64 0) := hB6.blk.cell 3
    have nf : ∀ i, w6.frozen? ⟨g, i, none⟩ = false := fun i => hB6.blk.frozen i
    have hT := hB6.turn (only_set (only_set (only_refl w6 (some g)) 2 (.int .i64 a)) 3 (.int .i64 1)) (a, 1) _ _ ((hB6.blk.set_ 2 (.int .i64 a)).set_ 3 (.int .i64 1))
    have HT := Lib.hid hT
    clear hT hB6 hK6 hown5 hgrow hat hfz hcz hlt m0 d0 d1 d2 d3 d4
    go_wp2_with fail
    refine (await_any _ _ g _ t a 1 HT.out.1).mono ?_
    rintro e w7 ⟨rfl, hB7, hK7⟩
    have HB7 := Lib.hid hB7
    have HK7 := Lib.hid ((HK6.out.trans HT.out.2).trans hK7)
    clear hB7 hK7
    go_wp2
    go_ret
    exact ⟨rfl, fun _ => HB7.out.mono (fun k hk => .inl hk), keep_box HL.out HK7.out⟩


set_option maxRecDepth 100000 in
set_option maxHeartbeats 6400000 in
theorem add_begin_bad (w : World) (Pr : Nat → Prop) (g : Nat) (out : List Tok) (cols : List Int) (la lb : Int) (it li : Int × Int) (t : TR) (a b : Int) (h : BSt w Pr g ⟨out, cols, (la, lb), it, li⟩) (hr : RangeVar w) (hs : t.str.length ≤ 140737488355328)
    (hV : valT t = true) (hA : isAft (a, b) (la, lb) = true) (x : Int) (r : List Int) (hc : cols = x :: r) (it2 li2 : Int × Int) (e2 : Int) (o2 : List Tok) (cs2 : List Int) (sx : LSt) (h1 : 1 ≤ la) (hans : ansL ⟨out, cols, (la, lb), it, li⟩ (decide (la < a)) = (true, ⟨out, cols, (la, lb), it2, li2⟩)) (hbeg : begL out cols (t, (a, b)) = (e2, o2, cs2)) (he : e2 ≠ 0) (hn : out.length ≤ 999999990) (hm : r.length ≤ 999999990) :
    Calls Tryz.prog 46 #[.pointer (some ⟨g, 0, none⟩), tkV t a b] w (AddPost w Pr g (e2, sx)) := by
  have HX := Lib.hid hans
  have HG := Lib.hid hbeg
  have HC := Lib.hid hc
  have HE := Lib.hid he
  clear hans hbeg hc he
  have HL := Lib.hid h.lt
  have HB0 := Lib.hid (h.more (.cells #[.int .i64 t.kind, .int .i64 t.num, .string (S t.str), .int .i64 a, .int .i64 b] 37))
  have HR := Lib.hid hr
  obtain ⟨vt, vc, hBA⟩ := HB0.out
  have k2 : (w.alloc (.cells #[.int .i64 t.kind, .int .i64 t.num, .string (S t.str), .int .i64 a, .int .i64 b] 37)).cell? ⟨g, 2, none⟩ = some (.int .i64 la) := hBA.blk.cell 2
  have k3 : (w.alloc (.cells #[.int .i64 t.kind, .int .i64 t.num, .string (S t.str), .int .i64 a, .int .i64 b] 37)).cell? ⟨g, 3, none⟩ = some (.int .i64 lb) := hBA.blk.cell 3
  have hgl : g < w.heap.size := by obtain ⟨_, _, q⟩ := h; exact q.blk.lt
  have hne : ¬ w.heap.size = g := by omega
  have hne2 : ¬ g = w.heap.size := by omega
  have HVH := Lib.hid (fun W => valid_held t a b la lb hs g w.heap.size W)
  have HAH := Lib.hid (fun W => after_held t a b la lb g w.heap.size W)
  rw [hV] at HVH
  rw [hA] at HAH
  clear h hr hs hV hA hBA
  go_enter Tryz.func46, Tryz.ntmps46
  go_wp2_with fail
  go_region_held3 (fun W => W.cell? ⟨w.heap.size, 0, none⟩ = some (.int .i64 t.kind) ∧ W.cell? ⟨w.heap.size, 1, none⟩ = some (.int .i64 t.num) ∧ W.cell? ⟨w.heap.size, 2, none⟩ = some (.string (S t.str)) ∧
    W.cell? ⟨w.heap.size, 3, none⟩ = some (.int .i64 a) ∧ W.cell? ⟨w.heap.size, 4, none⟩ = some (.int .i64 b) ∧ W.cell? ⟨g, 2, none⟩ = some (.int .i64 la) ∧ W.cell? ⟨g, 3, none⟩ = some (.int .i64 lb)) (first | go_keep | exact hsev1 | exact hsev2)
    (first | (go_at_call 57; refine (HVH.out _ ?_ ?_ ?_ ?_).mono ?_; (exact (HR.out.alloc _).drew); (simp; omega); (simp); (refine ⟨?_, ?_, ?_, ?_, ?_, ?_, ?_⟩ <;> simp [*]); rintro e w1 ⟨rfl, hsev1, hb1⟩) | (go_at_call 58; refine (HAH.out _ ?_ ?_ ?_).mono ?_; (have := hb1.size; simp at this; omega); (have := hb1.size; simp at this; omega); (exact hsev1); rintro e w2 ⟨rfl, hsev2, hb2⟩))
  have hz1 := hb1.size
  have hz2 := hb2.size
  simp at hz1
  have HB2 : Hid (BSt w2 (orOne Pr w.heap.size) g ⟨out, cols, (la, lb), it, li⟩) := by
    obtain ⟨vt, vc, q⟩ := HB0.out
    exact ⟨vt, vc, (q.drew.below hb1).below hb2⟩
  have HK2 : Hid (Keep (orOne Pr w.heap.size) (w.alloc (.cells #[.int .i64 t.kind, .int .i64 t.num, .string (S t.str), .int .i64 a, .int .i64 b] 37)) w2) :=
    (((Keep.refl (orOne Pr w.heap.size) (w.alloc (.cells #[.int .i64 t.kind, .int .i64 t.num, .string (S t.str), .int .i64 a, .int .i64 b] 37))).drew).trans (Keep.below hb1 (fun k hk => by have := HB0.out.lt k hk; simpa using this))).trans
      (Keep.below hb2 (fun k hk => by have := HB0.out.lt k hk; simp at this; omega))
  obtain ⟨c0, c1, c2, c3, c4, c5, c6⟩ := seven_open hsev2
  clear k2 k3 hsev1 hsev2 hb1 hb2 HVH HAH HR
  have g1 : (la == 0) = false := beq_eq_false_iff_ne.2 (by omega)
  go_wp2_with fail
  go_quiet (fail)
  have HB4 := Lib.hid (HB2.out.drewN nq)
  have HK4 := Lib.hid (HK2.out.drewN nq)
  generalize w2.drewN nq = w4 at *
  go_wp2_with fail
  refine (answer_any _ _ g _ (decide (la < a)) HB4.out).mono ?_
  rw [HX.out]
  rintro e w8 ⟨rfl, hB8, hK8⟩
  have HB8 := Lib.hid hB8
  have HK8 := Lib.hid (HK4.out.trans hK8)
  clear hB8 hK8
  simp only at HB8
  have d0 : w8.cell? ⟨w.heap.size, 0, none⟩ = some (.int .i64 t.kind) := box_cell HK8.out 0
  have d1 : w8.cell? ⟨w.heap.size, 1, none⟩ = some (.int .i64 t.num) := box_cell HK8.out 1
  have d2 : w8.cell? ⟨w.heap.size, 2, none⟩ = some (.string (S t.str)) := box_cell HK8.out 2
  have d3 : w8.cell? ⟨w.heap.size, 3, none⟩ = some (.int .i64 a) := box_cell HK8.out 3
  have d4 : w8.cell? ⟨w.heap.size, 4, none⟩ = some (.int .i64 b) := box_cell HK8.out 4
  go_wp2_with fail
  refine (begin_any _ _ g _ t a b x r HB8.out HC.out (by simp; omega) (by omega)).mono ?_
  rw [HG.out]
  rintro e w9 ⟨rfl, hB9, hK9⟩
  have HK9 := Lib.hid (HK8.out.trans hK9)
  have g2 : (e2 != 0) = true := by have := HE.out; simp [this]
  clear hB9 hK9 d0 d1 d2 d3 d4
  go_wp2
  go_ret
  exact ⟨rfl, fun q => absurd q HE.out, keep_box HL.out HK9.out⟩


set_option maxRecDepth 100000 in
set_option maxHeartbeats 6400000 in
theorem add_begin (w : World) (Pr : Nat → Prop) (g : Nat) (out : List Tok) (cols : List Int) (la lb : Int) (it li : Int × Int) (t : TR) (a b : Int) (h : BSt w Pr g ⟨out, cols, (la, lb), it, li⟩) (hr : RangeVar w) (hs : t.str.length ≤ 140737488355328)
    (hV : valT t = true) (hA : isAft (a, b) (la, lb) = true) (x : Int) (r : List Int) (hc : cols = x :: r) (it2 li2 : Int × Int) (o2 : List Tok) (cs2 : List Int) (h1 : 1 ≤ la) (hans : ansL ⟨out, cols, (la, lb), it, li⟩ (decide (la < a)) = (true, ⟨out, cols, (la, lb), it2, li2⟩)) (hbeg : begL out cols (t, (a, b)) = (0, o2, cs2)) (hn : out.length ≤ 999999990) (hm : r.length ≤ 999999990) (ho : o2.length ≤ 999999999) :
    Calls Tryz.prog 46 #[.pointer (some ⟨g, 0, none⟩), tkV t a b] w (AddPost w Pr g (0, finL o2 cs2 it2 li2 (t, (a, b)))) := by
  have HX := Lib.hid hans
  have HG := Lib.hid hbeg
  have HC := Lib.hid hc
  clear hans hbeg hc
  have HL := Lib.hid h.lt
  have HB0 := Lib.hid (h.more (.cells #[.int .i64 t.kind, .int .i64 t.num, .string (S t.str), .int .i64 a, .int .i64 b] 37))
  have HR := Lib.hid hr
  obtain ⟨vt, vc, hBA⟩ := HB0.out
  have k2 : (w.alloc (.cells #[.int .i64 t.kind, .int .i64 t.num, .string (S t.str), .int .i64 a, .int .i64 b] 37)).cell? ⟨g, 2, none⟩ = some (.int .i64 la) := hBA.blk.cell 2
  have k3 : (w.alloc (.cells #[.int .i64 t.kind, .int .i64 t.num, .string (S t.str), .int .i64 a, .int .i64 b] 37)).cell? ⟨g, 3, none⟩ = some (.int .i64 lb) := hBA.blk.cell 3
  have hgl : g < w.heap.size := by obtain ⟨_, _, q⟩ := h; exact q.blk.lt
  have hne : ¬ w.heap.size = g := by omega
  have hne2 : ¬ g = w.heap.size := by omega
  have HVH := Lib.hid (fun W => valid_held t a b la lb hs g w.heap.size W)
  have HAH := Lib.hid (fun W => after_held t a b la lb g w.heap.size W)
  rw [hV] at HVH
  rw [hA] at HAH
  clear h hr hs hV hA hBA
  go_enter Tryz.func46, Tryz.ntmps46
  go_wp2_with fail
  go_region_held3 (fun W => W.cell? ⟨w.heap.size, 0, none⟩ = some (.int .i64 t.kind) ∧ W.cell? ⟨w.heap.size, 1, none⟩ = some (.int .i64 t.num) ∧ W.cell? ⟨w.heap.size, 2, none⟩ = some (.string (S t.str)) ∧
    W.cell? ⟨w.heap.size, 3, none⟩ = some (.int .i64 a) ∧ W.cell? ⟨w.heap.size, 4, none⟩ = some (.int .i64 b) ∧ W.cell? ⟨g, 2, none⟩ = some (.int .i64 la) ∧ W.cell? ⟨g, 3, none⟩ = some (.int .i64 lb)) (first | go_keep | exact hsev1 | exact hsev2)
    (first | (go_at_call 57; refine (HVH.out _ ?_ ?_ ?_ ?_).mono ?_; (exact (HR.out.alloc _).drew); (simp; omega); (simp); (refine ⟨?_, ?_, ?_, ?_, ?_, ?_, ?_⟩ <;> simp [*]); rintro e w1 ⟨rfl, hsev1, hb1⟩) | (go_at_call 58; refine (HAH.out _ ?_ ?_ ?_).mono ?_; (have := hb1.size; simp at this; omega); (have := hb1.size; simp at this; omega); (exact hsev1); rintro e w2 ⟨rfl, hsev2, hb2⟩))
  have hz1 := hb1.size
  have hz2 := hb2.size
  simp at hz1
  have HB2 : Hid (BSt w2 (orOne Pr w.heap.size) g ⟨out, cols, (la, lb), it, li⟩) := by
    obtain ⟨vt, vc, q⟩ := HB0.out
    exact ⟨vt, vc, (q.drew.below hb1).below hb2⟩
  have HK2 : Hid (Keep (orOne Pr w.heap.size) (w.alloc (.cells #[.int .i64 t.kind, .int .i64 t.num, .string (S t.str), .int .i64 a, .int .i64 b] 37)) w2) :=
    (((Keep.refl (orOne Pr w.heap.size) (w.alloc (.cells #[.int .i64 t.kind, .int .i64 t.num, .string (S t.str), .int .i64 a, .int .i64 b] 37))).drew).trans (Keep.below hb1 (fun k hk => by have := HB0.out.lt k hk; simpa using this))).trans
      (Keep.below hb2 (fun k hk => by have := HB0.out.lt k hk; simp at this; omega))
  obtain ⟨c0, c1, c2, c3, c4, c5, c6⟩ := seven_open hsev2
  clear k2 k3 hsev1 hsev2 hb1 hb2 HVH HAH HR
  have g1 : (la == 0) = false := beq_eq_false_iff_ne.2 (by omega)
  go_wp2_with fail
  go_quiet (fail)
  have HB4 := Lib.hid (HB2.out.drewN nq)
  have HK4 := Lib.hid (HK2.out.drewN nq)
  generalize w2.drewN nq = w4 at *
  go_wp2_with fail
  refine (answer_any _ _ g _ (decide (la < a)) HB4.out).mono ?_
  rw [HX.out]
  rintro e w8 ⟨rfl, hB8, hK8⟩
  have HB8 := Lib.hid hB8
  have HK8 := Lib.hid (HK4.out.trans hK8)
  clear hB8 hK8
  simp only at HB8
  have d0 : w8.cell? ⟨w.heap.size, 0, none⟩ = some (.int .i64 t.kind) := box_cell HK8.out 0
  have d1 : w8.cell? ⟨w.heap.size, 1, none⟩ = some (.int .i64 t.num) := box_cell HK8.out 1
  have d2 : w8.cell? ⟨w.heap.size, 2, none⟩ = some (.string (S t.str)) := box_cell HK8.out 2
  have d3 : w8.cell? ⟨w.heap.size, 3, none⟩ = some (.int .i64 a) := box_cell HK8.out 3
  have d4 : w8.cell? ⟨w.heap.size, 4, none⟩ = some (.int .i64 b) := box_cell HK8.out 4
  go_wp2_with fail
  refine (begin_any _ _ g _ t a b x r HB8.out HC.out (by simp; omega) (by omega)).mono ?_
  rw [HG.out]
  rintro e w9 ⟨rfl, hB9, hK9⟩
  have HB9 := Lib.hid hB9
  have HK9 := Lib.hid (HK8.out.trans hK9)
  clear hB9 hK9 d0 d1 d2 d3 d4
  simp only at HB9
  obtain ⟨vt3, vc3, hB3⟩ := HB9.out
  obtain ⟨A3, cc3, rfl⟩ := owns_form hB3.rt
  obtain ⟨i0, hi0, hz0, hzz1, hzz2⟩ := info_parts token_info
  have m0 : w9.cell? ⟨g, 0, none⟩ = some (.slice A3 _ cc3) := hB3.blk.cell 0
  have ag := hB3.gt
  have hg3 : g < w9.heap.size := hB3.blk.lt
  have hbx : w.heap.size < w9.heap.size := hB3.lt _ (.inr rfl)
  have d0 : w9.cell? ⟨w.heap.size, 0, none⟩ = some (.int .i64 t.kind) := box_cell HK9.out 0
  have d1 : w9.cell? ⟨w.heap.size, 1, none⟩ = some (.int .i64 t.num) := box_cell HK9.out 1
  have d2 : w9.cell? ⟨w.heap.size, 2, none⟩ = some (.string (S t.str)) := box_cell HK9.out 2
  have d3 : w9.cell? ⟨w.heap.size, 3, none⟩ = some (.int .i64 a) := box_cell HK9.out 3
  have d4 : w9.cell? ⟨w.heap.size, 4, none⟩ = some (.int .i64 b) := box_cell HK9.out 4
  have HB3 := Lib.hid hB3
  clear hB3
  go_wp2_with fail
  go_region_law
    ((refine step_append_lies _ (by rfl) _ _ _ (by rfl) 0 37 i0 _ 5 48 Tryz.underlying23 hi0 hz0 hzz1 hzz2 rfl (by omega) (.slice A3 _ cc3) _ _ (by rfl) ((HB3.out.rt.alloc _).drew)
        ⟨w9.heap.size, 0, none⟩ 1 1 (tokCells (t, (a, b))) (by rfl) (by rfl) (World.news_of_block (cs := #[.int .i64 t.kind, .int .i64 t.num, .string (S t.str), .int .i64 a, .int .i64 b]) (t := 37) (fr := (0, 0)) (heap_alloc_new w9 _)) (tok_one _)
        (by omega) (by show o2.length + 1 ≤ maxLen; unfold maxLen; omega) (by show (o2.length + 1) * 48 ≤ 140737488355328; omega) (by simp) (w9.heap.size + 1) (by simp) ?_; intro gg cap w5 hown5 hgrow hat hlt; have hfz : w5.frozen? ⟨g, 0, none⟩ = false := (hgrow.frozen_far ⟨g, 0, none⟩ (by simp; omega) (Ne.symm ag)).trans (((HB3.out.alloc _).drew).blk.frozen 0); have hcz : w5.cell? ⟨g, 0, none⟩ = some (.slice A3 _ cc3) := (hgrow.cell_far ⟨g, 0, none⟩ (by simp; omega) (Ne.symm ag)).trans (((HB3.out.alloc _).drew).blk.cell 0)))
  all_goals
    have hE := push_end (HB3.out.alloc (.cells #[.int .i64 t.kind, .int .i64 t.num, .string (S t.str), .int .i64 a, .int .i64 b] 37)).drew (t, (a, b)) hown5 hgrow (hat.imp id (fun q => by simp; omega))
    generalize w5.setCell ⟨g, 0, none⟩ (.slice (some ⟨gg, 0, none⟩) (_ + 1) cap) = w6 at *
    obtain ⟨⟨vt6, vc6, hB6⟩, hK6⟩ := hE
    have HK6 : Hid (Keep (orOne Pr w.heap.size) (w.alloc (.cells #[.int .i64 t.kind, .int .i64 t.num, .string (S t.str), .int .i64 a, .int .i64 b] 37)) w6) := HK9.out.trans ((((Keep.refl (orOne Pr w.heap.size) w9).alloc HB3.out.lt _).drew).trans hK6)
    have j0 : w6.cell? ⟨w.heap.size, 0, none⟩ = some (.int .i64 t.kind) := box_cell HK6.out 0
    have j1 : w6.cell? ⟨w.heap.size, 1, none⟩ = some (.int .i64 t.num) := box_cell HK6.out 1
    have j2 : w6.cell? ⟨w.heap.size, 2, none⟩ = some (.string (S t.str)) := box_cell HK6.out 2
    have j3 : w6.cell? ⟨w.heap.size, 3, none⟩ = some (.int .i64 a) := box_cell HK6.out 3
    have j4 : w6.cell? ⟨w.heap.size, 4, none⟩ = some (.int .i64 b) := box_cell HK6.out 4
    have n2 : w6.cell? ⟨g, 2, none⟩ = some (.int .i64 la) := hB6.blk.cell 2
    have n3 : w6.cell? ⟨g, 3, none⟩ = some (.int .i64 lb) := hB6.blk.cell 3
    have nf : ∀ i, w6.frozen? ⟨g, i, none⟩ = false := fun i => hB6.blk.frozen i
    have hT := hB6.turn (only_set (only_set (only_refl w6 (some g)) 2 (.int .i64 a)) 3 (.int .i64 b)) (a, b) _ _ ((hB6.blk.set_ 2 (.int .i64 a)).set_ 3 (.int .i64 b))
    have HT := Lib.hid hT
    clear hT hB6 hK6 hown5 hgrow hat hfz hcz hlt m0 d0 d1 d2 d3 d4
    go_wp2_with fail
    refine (await_any _ _ g _ t a b HT.out.1).mono ?_
    rintro e w7 ⟨rfl, hB7, hK7⟩
    have HB7 := Lib.hid hB7
    have HK7 := Lib.hid ((HK6.out.trans HT.out.2).trans hK7)
    clear hB7 hK7
    go_wp2
    go_ret
    exact ⟨rfl, fun _ => HB7.out.mono (fun k hk => .inl hk), keep_box HL.out HK7.out⟩


set_option maxRecDepth 100000 in
set_option maxHeartbeats 6400000 in
theorem add_proceed (w : World) (Pr : Nat → Prop) (g : Nat) (out : List Tok) (cols : List Int) (la lb : Int) (it li : Int × Int) (t : TR) (a b : Int) (h : BSt w Pr g ⟨out, cols, (la, lb), it, li⟩) (hr : RangeVar w) (hs : t.str.length ≤ 140737488355328)
    (hV : valT t = true) (hA : isAft (a, b) (la, lb) = true) (o2 : List Tok) (cs2 : List Int) (h1 : 1 ≤ la) (hb0 : 1 ≤ b) (hl : cols.getLast? = some 1) (hans : ansL ⟨out, cols, (la, lb), it, li⟩ (decide (la < a)) = (false, ⟨out, cols, (la, lb), it, li⟩)) (hpr : procL out cols (t, (a, b)) (decide (la < a)) = (o2, cs2)) (hn : out.length + cols.length ≤ 999999990) (ho : o2.length ≤ 999999999) :
    Calls Tryz.prog 46 #[.pointer (some ⟨g, 0, none⟩), tkV t a b] w (AddPost w Pr g (0, finL o2 cs2 it li (t, (a, b)))) := by
  have HX := Lib.hid hans
  have HG := Lib.hid hpr
  have HLA := Lib.hid hl
  clear hans hpr hl
  have HL := Lib.hid h.lt
  have HB0 := Lib.hid (h.more (.cells #[.int .i64 t.kind, .int .i64 t.num, .string (S t.str), .int .i64 a, .int .i64 b] 37))
  have HR := Lib.hid hr
  obtain ⟨vt, vc, hBA⟩ := HB0.out
  have k2 : (w.alloc (.cells #[.int .i64 t.kind, .int .i64 t.num, .string (S t.str), .int .i64 a, .int .i64 b] 37)).cell? ⟨g, 2, none⟩ = some (.int .i64 la) := hBA.blk.cell 2
  have k3 : (w.alloc (.cells #[.int .i64 t.kind, .int .i64 t.num, .string (S t.str), .int .i64 a, .int .i64 b] 37)).cell? ⟨g, 3, none⟩ = some (.int .i64 lb) := hBA.blk.cell 3
  have hgl : g < w.heap.size := by obtain ⟨_, _, q⟩ := h; exact q.blk.lt
  have hne : ¬ w.heap.size = g := by omega
  have hne2 : ¬ g = w.heap.size := by omega
  have HVH := Lib.hid (fun W => valid_held t a b la lb hs g w.heap.size W)
  have HAH := Lib.hid (fun W => after_held t a b la lb g w.heap.size W)
  rw [hV] at HVH
  rw [hA] at HAH
  clear h hr hs hV hA hBA
  go_enter Tryz.func46, Tryz.ntmps46
  go_wp2_with fail
  go_region_held3 (fun W => W.cell? ⟨w.heap.size, 0, none⟩ = some (.int .i64 t.kind) ∧ W.cell? ⟨w.heap.size, 1, none⟩ = some (.int .i64 t.num) ∧ W.cell? ⟨w.heap.size, 2, none⟩ = some (.string (S t.str)) ∧
    W.cell? ⟨w.heap.size, 3, none⟩ = some (.int .i64 a) ∧ W.cell? ⟨w.heap.size, 4, none⟩ = some (.int .i64 b) ∧ W.cell? ⟨g, 2, none⟩ = some (.int .i64 la) ∧ W.cell? ⟨g, 3, none⟩ = some (.int .i64 lb)) (first | go_keep | exact hsev1 | exact hsev2)
    (first | (go_at_call 57; refine (HVH.out _ ?_ ?_ ?_ ?_).mono ?_; (exact (HR.out.alloc _).drew); (simp; omega); (simp); (refine ⟨?_, ?_, ?_, ?_, ?_, ?_, ?_⟩ <;> simp [*]); rintro e w1 ⟨rfl, hsev1, hb1⟩) | (go_at_call 58; refine (HAH.out _ ?_ ?_ ?_).mono ?_; (have := hb1.size; simp at this; omega); (have := hb1.size; simp at this; omega); (exact hsev1); rintro e w2 ⟨rfl, hsev2, hb2⟩))
  have hz1 := hb1.size
  have hz2 := hb2.size
  simp at hz1
  have HB2 : Hid (BSt w2 (orOne Pr w.heap.size) g ⟨out, cols, (la, lb), it, li⟩) := by
    obtain ⟨vt, vc, q⟩ := HB0.out
    exact ⟨vt, vc, (q.drew.below hb1).below hb2⟩
  have HK2 : Hid (Keep (orOne Pr w.heap.size) (w.alloc (.cells #[.int .i64 t.kind, .int .i64 t.num, .string (S t.str), .int .i64 a, .int .i64 b] 37)) w2) :=
    (((Keep.refl (orOne Pr w.heap.size) (w.alloc (.cells #[.int .i64 t.kind, .int .i64 t.num, .string (S t.str), .int .i64 a, .int .i64 b] 37))).drew).trans (Keep.below hb1 (fun k hk => by have := HB0.out.lt k hk; simpa using this))).trans
      (Keep.below hb2 (fun k hk => by have := HB0.out.lt k hk; simp at this; omega))
  obtain ⟨c0, c1, c2, c3, c4, c5, c6⟩ := seven_open hsev2
  clear k2 k3 hsev1 hsev2 hb1 hb2 HVH HAH HR
  have g1 : (la == 0) = false := beq_eq_false_iff_ne.2 (by omega)
  go_wp2_with fail
  go_quiet (fail)
  have HB4 := Lib.hid (HB2.out.drewN nq)
  have HK4 := Lib.hid (HK2.out.drewN nq)
  generalize w2.drewN nq = w4 at *
  go_wp2_with fail
  refine (answer_any _ _ g _ (decide (la < a)) HB4.out).mono ?_
  rw [HX.out]
  rintro e w8 ⟨rfl, hB8, hK8⟩
  have HB8 := Lib.hid hB8
  have HK8 := Lib.hid (HK4.out.trans hK8)
  clear hB8 hK8
  simp only at HB8
  have d0 : w8.cell? ⟨w.heap.size, 0, none⟩ = some (.int .i64 t.kind) := box_cell HK8.out 0
  have d1 : w8.cell? ⟨w.heap.size, 1, none⟩ = some (.int .i64 t.num) := box_cell HK8.out 1
  have d2 : w8.cell? ⟨w.heap.size, 2, none⟩ = some (.string (S t.str)) := box_cell HK8.out 2
  have d3 : w8.cell? ⟨w.heap.size, 3, none⟩ = some (.int .i64 a) := box_cell HK8.out 3
  have d4 : w8.cell? ⟨w.heap.size, 4, none⟩ = some (.int .i64 b) := box_cell HK8.out 4
  go_wp2_with fail
  refine (proceed_any _ _ g _ t a b (decide (la < a)) HB8.out HLA.out hb0 (by simp; omega)).mono ?_
  simp only
  rw [HG.out]
  rintro e w9 ⟨rfl, hB9, hK9⟩
  have HB9 := Lib.hid hB9
  have HK9 := Lib.hid (HK8.out.trans hK9)
  clear hB9 hK9 d0 d1 d2 d3 d4
  simp only at HB9
  obtain ⟨vt3, vc3, hB3⟩ := HB9.out
  obtain ⟨A3, cc3, rfl⟩ := owns_form hB3.rt
  obtain ⟨i0, hi0, hz0, hzz1, hzz2⟩ := info_parts token_info
  have m0 : w9.cell? ⟨g, 0, none⟩ = some (.slice A3 _ cc3) := hB3.blk.cell 0
  have ag := hB3.gt
  have hg3 : g < w9.heap.size := hB3.blk.lt
  have hbx : w.heap.size < w9.heap.size := hB3.lt _ (.inr rfl)
  have d0 : w9.cell? ⟨w.heap.size, 0, none⟩ = some (.int .i64 t.kind) := box_cell HK9.out 0
  have d1 : w9.cell? ⟨w.heap.size, 1, none⟩ = some (.int .i64 t.num) := box_cell HK9.out 1
  have d2 : w9.cell? ⟨w.heap.size, 2, none⟩ = some (.string (S t.str)) := box_cell HK9.out 2
  have d3 : w9.cell? ⟨w.heap.size, 3, none⟩ = some (.int .i64 a) := box_cell HK9.out 3
  have d4 : w9.cell? ⟨w.heap.size, 4, none⟩ = some (.int .i64 b) := box_cell HK9.out 4
  have HB3 := Lib.hid hB3
  clear hB3
  go_wp2_with fail
  go_region_law
    ((refine step_append_lies _ (by rfl) _ _ _ (by rfl) 0 37 i0 _ 5 48 Tryz.underlying23 hi0 hz0 hzz1 hzz2 rfl (by omega) (.slice A3 _ cc3) _ _ (by rfl) ((HB3.out.rt.alloc _).drew)
        ⟨w9.heap.size, 0, none⟩ 1 1 (tokCells (t, (a, b))) (by rfl) (by rfl) (World.news_of_block (cs := #[.int .i64 t.kind, .int .i64 t.num, .string (S t.str), .int .i64 a, .int .i64 b]) (t := 37) (fr := (0, 0)) (heap_alloc_new w9 _)) (tok_one _)
        (by omega) (by show o2.length + 1 ≤ maxLen; unfold maxLen; omega) (by show (o2.length + 1) * 48 ≤ 140737488355328; omega) (by simp) (w9.heap.size + 1) (by simp) ?_; intro gg cap w5 hown5 hgrow hat hlt; have hfz : w5.frozen? ⟨g, 0, none⟩ = false := (hgrow.frozen_far ⟨g, 0, none⟩ (by simp; omega) (Ne.symm ag)).trans (((HB3.out.alloc _).drew).blk.frozen 0); have hcz : w5.cell? ⟨g, 0, none⟩ = some (.slice A3 _ cc3) := (hgrow.cell_far ⟨g, 0, none⟩ (by simp; omega) (Ne.symm ag)).trans (((HB3.out.alloc _).drew).blk.cell 0)))
  all_goals
    have hE := push_end (HB3.out.alloc (.cells #[.int .i64 t.kind, .int .i64 t.num, .string (S t.str), .int .i64 a, .int .i64 b] 37)).drew (t, (a, b)) hown5 hgrow (hat.imp id (fun q => by simp; omega))
    generalize w5.setCell ⟨g, 0, none⟩ (.slice (some ⟨gg, 0, none⟩) (_ + 1) cap) = w6 at *
    obtain ⟨⟨vt6, vc6, hB6⟩, hK6⟩ := hE
    have HK6 : Hid (Keep (orOne Pr w.heap.size) (w.alloc (.cells #[.int .i64 t.kind, .int .i64 t.num, .string (S t.str), .int .i64 a, .int .i64 b] 37)) w6) := HK9.out.trans ((((Keep.refl (orOne Pr w.heap.size) w9).alloc HB3.out.lt _).drew).trans hK6)
    have j0 : w6.cell? ⟨w.heap.size, 0, none⟩ = some (.int .i64 t.kind) := box_cell HK6.out 0
    have j1 : w6.cell? ⟨w.heap.size, 1, none⟩ = some (.int .i64 t.num) := box_cell HK6.out 1
    have j2 : w6.cell? ⟨w.heap.size, 2, none⟩ = some (.string (S t.str)) := box_cell HK6.out 2
    have j3 : w6.cell? ⟨w.heap.size, 3, none⟩ = some (.int .i64 a) := box_cell HK6.out 3
    have j4 : w6.cell? ⟨w.heap.size, 4, none⟩ = some (.int .i64 b) := box_cell HK6.out 4
    have n2 : w6.cell? ⟨g, 2, none⟩ = some (.int .i64 la) := hB6.blk.cell 2
    have n3 : w6.cell? ⟨g, 3, none⟩ = some (.int .i64 lb) := hB6.blk.cell 3
    have nf : ∀ i, w6.frozen? ⟨g, i, none⟩ = false := fun i => hB6.blk.frozen i
    have hT := hB6.turn (only_set (only_set (only_refl w6 (some g)) 2 (.int .i64 a)) 3 (.int .i64 b)) (a, b) _ _ ((hB6.blk.set_ 2 (.int .i64 a)).set_ 3 (.int .i64 b))
    have HT := Lib.hid hT
    clear hT hB6 hK6 hown5 hgrow hat hfz hcz hlt m0 d0 d1 d2 d3 d4
    go_wp2_with fail
    refine (await_any _ _ g _ t a b HT.out.1).mono ?_
    rintro e w7 ⟨rfl, hB7, hK7⟩
    have HB7 := Lib.hid hB7
    have HK7 := Lib.hid ((HK6.out.trans HT.out.2).trans hK7)
    clear hB7 hK7
    go_wp2
    go_ret
    exact ⟨rfl, fun _ => HB7.out.mono (fun k hk => .inl hk), keep_box HL.out HK7.out⟩


end Go.Proofs.YtkjjagmpnnnimaaGreatDoor
