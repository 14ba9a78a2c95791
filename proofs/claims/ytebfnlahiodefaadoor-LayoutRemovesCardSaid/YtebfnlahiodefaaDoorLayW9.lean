/- The program's add at every token, newBuilder and unanswered. Conditions: strings of at most 2^47 bytes, fewer than two hundred million tokens; strconv.ErrRange holds an interface value. -/
import Derived.Test.YtebfnlahiodefaaDoorLayW8
import Derived.Test.YtebfnlahiodefaaDoorLayN
namespace Go.Proofs.YtebfnlahiodefaaDoor
open Go.RowKit M

theorem add_any (w : World) (Pr : Nat → Prop) (g k : Nat) (s : LSt) (t : TR) (a b : Int) (h : BSt w Pr g s) (hi : LInv k s) (hk : k ≤ 200000000) (hr : RangeVar w) (hs : t.str.length ≤ 140737488355328) :
    Calls Tryd.prog 61 #[.pointer (some ⟨g, 0, none⟩), tkV t a b] w (AddPost w Pr g (addL s (t, (a, b)))) := by
  obtain ⟨out, cols, ⟨la, lb⟩, it, li⟩ := s
  obtain ⟨b1, b2, b3, b4⟩ := hi
  simp only at b1 b2 b3 b4
  unfold addL
  simp only
  by_cases h1 : (valT t && isAft (a, b) (la, lb)) = false
  · rw [if_pos h1]
    cases hv : valT t
    · exact add_bad w Pr g _ t a b h hr hs hv
    · rw [hv, Bool.true_and] at h1
      exact add_bad2 w Pr g _ t a b h hr hs hv h1
  obtain ⟨hv, ha⟩ := val_aft (t := (t, (a, b))) h1
  obtain ⟨p1, p2⟩ := isAft_pos ha
  simp only at hv ha p1 p2
  rw [if_neg h1]
  by_cases h2 : (la, lb) = (0, 0)
  · rw [if_pos h2]
    injection h2 with e1 e2
    subst e1 e2
    by_cases h3 : b ≠ 1
    · rw [if_pos h3]; exact add_first_bad w Pr g out cols it li t a b h hr hs hv ha h3
    · rw [if_neg h3]
      have h3 : b = 1 := Classical.byContradiction h3
      subst h3
      exact add_first w Pr g out cols it li t a h hr hs hv ha (by omega)
  rw [if_neg h2]
  have hla : 1 ≤ la := by
    rcases b4 with q | q
    · exact absurd q h2
    · exact q
  obtain ⟨x, r, rfl⟩ : ∃ x r, cols = x :: r := by
    cases cols with
    | nil => simp at b1
    | cons x r => exact ⟨x, r, rfl⟩
  rw [List.length_cons] at b2 b3
  have hbl := begL_len out (x :: r) (t, (a, b))
  rw [List.length_cons] at hbl
  by_cases h3 : it ≠ (0, 0)
  · rw [if_pos h3]
    have hans : ansL ⟨out, x :: r, (la, lb), it, li⟩ (decide (la < a)) = (true, ⟨out, x :: r, (la, lb), (0, 0), li⟩) := by unfold ansL; rw [if_pos h3]
    generalize hB : begL out (x :: r) (t, (a, b)) = B at *
    obtain ⟨e2, o2, cs2⟩ := B
    simp only at hbl ⊢
    by_cases h4 : e2 ≠ 0
    · rw [if_pos h4]
      exact add_begin_bad w Pr g out (x :: r) la lb it li t a b h hr hs hv ha x r rfl (0, 0) li e2 o2 cs2 _ hla hans hB h4 (by omega) (by omega)
    · rw [if_neg h4]
      have h4 : e2 = 0 := Classical.byContradiction h4
      subst h4
      exact add_begin w Pr g out (x :: r) la lb it li t a b h hr hs hv ha x r rfl (0, 0) li o2 cs2 hla hans hB (by omega) (by omega) (by omega)
  rw [if_neg h3]
  by_cases h5 : la < a ∧ li ≠ (0, 0)
  · rw [if_pos h5]
    have hans : ansL ⟨out, x :: r, (la, lb), it, li⟩ (decide (la < a)) = (true, ⟨out, x :: r, (la, lb), it, (0, 0)⟩) := by
      unfold ansL; rw [if_neg h3, if_pos ⟨decide_eq_true h5.1, h5.2⟩]
    have h30 : it = (0, 0) := Classical.byContradiction h3
    subst h30
    generalize hB : begL out (x :: r) (t, (a, b)) = B at *
    obtain ⟨e2, o2, cs2⟩ := B
    simp only at hbl ⊢
    by_cases h4 : e2 ≠ 0
    · rw [if_pos h4]
      exact add_begin_bad w Pr g out (x :: r) la lb (0, 0) li t a b h hr hs hv ha x r rfl (0, 0) (0, 0) e2 o2 cs2 _ hla hans hB h4 (by omega) (by omega)
    · rw [if_neg h4]
      have h4 : e2 = 0 := Classical.byContradiction h4
      subst h4
      exact add_begin w Pr g out (x :: r) la lb (0, 0) li t a b h hr hs hv ha x r rfl (0, 0) (0, 0) o2 cs2 hla hans hB (by omega) (by omega) (by omega)
  rw [if_neg h5]
  have hans : ansL ⟨out, x :: r, (la, lb), it, li⟩ (decide (la < a)) = (false, ⟨out, x :: r, (la, lb), it, li⟩) := by
    unfold ansL
    rw [if_neg h3, if_neg (fun q => h5 ⟨of_decide_eq_true q.1, q.2⟩)]
  have hpo := procL_ok (out := out) (cols := x :: r) (t := (t, (a, b))) (decide (la < a)) b1 (by simp; omega) p2
  rw [List.length_cons] at hpo
  generalize hB : procL out (x :: r) (t, (a, b)) (decide (la < a)) = B at *
  obtain ⟨o2, cs2⟩ := B
  simp only at hpo ⊢
  exact add_proceed w Pr g out (x :: r) la lb it li t a b h hr hs hv ha o2 cs2 hla p2 b1 hans hB (by simp; omega) (by omega)

set_option maxRecDepth 100000 in
set_option maxHeartbeats 3200000 in
theorem new_any (w : World) :
    Calls Tryd.prog 60 #[] w fun e w' => e = .returned (.pointer (some ⟨w.heap.size, 0, none⟩)) ∧ BSt w' (· < w.heap.size) w.heap.size startL ∧ Below w.heap.size w w' := by
  have hB0 : BSt (w.alloc (.cells #[.slice none 0 0, .slice none 0 0, .int .i64 0, .int .i64 0, .int .i64 0, .int .i64 0, .int .i64 0, .int .i64 0] 87)) (· < w.heap.size) w.heap.size ⟨[], [], (0, 0), (0, 0), (0, 0)⟩ :=
    ⟨.slice none 0 0, .slice none 0 0, Blk.new _ _ _, World.ownsRow_nil _ _ _ _, World.ownsRow_nil _ _ _ _, Nat.lt_irrefl _, fun k hk => by simp [Value.ownBlock] at hk, fun k hk => by simp [Value.ownBlock] at hk, fun k hk => by simp; omega⟩
  have HB0 := Lib.hid hB0
  clear hB0
  go_enter Tryd.func60, Tryd.ntmps60
  go_wp2_with fail
  refine (open_any _ _ _ _ 1 1 HB0.out (by simp) (by simp)).mono ?_
  rintro e w1 ⟨rfl, hB1, hK1⟩
  have HB1 := Lib.hid hB1
  have HK1 := Lib.hid hK1
  clear hB1 hK1
  go_wp2
  go_ret
  exact ⟨rfl, HB1.out, (((Keep.refl (· < w.heap.size) w).alloc (fun _ h => h) _).trans HK1.out).to_below⟩

/-- the keyword that still waits -/
def waitL (s : LSt) : Int × Int := if s.line ≠ (0, 0) then s.line else s.item
set_option maxRecDepth 100000 in
set_option maxHeartbeats 3200000 in
theorem unanswered_any (w : World) (Pr : Nat → Prop) (g : Nat) (s : LSt) (h : BSt w Pr g s) :
    Calls Tryd.prog 62 #[.pointer (some ⟨g, 0, none⟩)] w fun e w' => e = .returned (posV (waitL s).1 (waitL s).2) ∧ Below w.heap.size w w' := by
  have hW : Hid (waitL s = if s.line ≠ (0, 0) then s.line else s.item) := rfl
  generalize waitL s = W at *
  obtain ⟨out, cols, la, ⟨i1, i2⟩, ⟨l1, l2⟩⟩ := s
  obtain ⟨vt, vc, hB⟩ := h
  have k4 : w.cell? ⟨g, 4, none⟩ = some (.int .i64 i1) := hB.blk.cell 4
  have k5 : w.cell? ⟨g, 5, none⟩ = some (.int .i64 i2) := hB.blk.cell 5
  have k6 : w.cell? ⟨g, 6, none⟩ = some (.int .i64 l1) := hB.blk.cell 6
  have k7 : w.cell? ⟨g, 7, none⟩ = some (.int .i64 l2) := hB.blk.cell 7
  have hg := hB.blk.lt
  simp only at hW
  clear hB
  rcases pair_zero (l1, l2) with h1 | ⟨h1, h2⟩
  · have hW2 : Hid (W = (i1, i2)) := hW.out.trans (if_neg (fun q => q h1))
    injection h1 with e1 e2
    subst e1 e2
    clear hW
    go_enter Tryd.func62, Tryd.ntmps62
    go_wp2
    refine bodyPost_ret (v := posV i1 i2) ?_ rfl ?_
    · simp [results, Tryd.results62, go_sem]
    · rw [hW2.out]
      exact ⟨rfl, (Below.refl _ _).alloc (Nat.le_refl _) _⟩
  · have hW2 : Hid (W = (l1, l2)) := hW.out.trans (if_pos h1)
    simp only at h2
    clear hW h1
    rcases h2 with h2 | ⟨h2, h3⟩
    all_goals
      go_enter Tryd.func62, Tryd.ntmps62
      go_wp2
      refine bodyPost_ret (v := posV l1 l2) ?_ rfl ?_
      · simp [results, Tryd.results62, go_sem]
      · rw [hW2.out]
        exact ⟨rfl, (Below.refl _ _).alloc (Nat.le_refl _) _⟩

end Go.Proofs.YtebfnlahiodefaaDoor
