/- The program's add at every token, newBuilder and unanswered. Conditions: strings of at most 2^47 bytes, fewer than two hundred million tokens; strconv.ErrRange holds an interface value. Two rows of the same tokens are equal; how many tokens a scan returns. Tokens that lie in a slice. No conditions. -/
import Derived.Test.YtoogbgmneabfnaaDoorG15
import Derived.Test.YtoogbgmneabfnaaDoorG9
import Derived.Test.YtoogbgmneabfnaaDoorG5
import Derived.Test.YtoogbgmneabfnaaDoorG6
namespace Go.Proofs.YtoogbgmneabfnaaDoor
open Go.RowKit M

theorem add_any (w : World) (Pr : Nat → Prop) (g k : Nat) (s : LSt) (t : TR) (a b : Int) (h : BSt w Pr g s) (hi : LInv k s) (hk : k ≤ 200000000) (hr : RangeVar w) (hs : t.str.length ≤ 140737488355328) :
    Calls Tryd.prog 17 #[.pointer (some ⟨g, 0, none⟩), tkV t a b] w (AddPost w Pr g (addL s (t, (a, b)))) := by
  obtain ⟨out, cols, ⟨la, lb⟩, it, li⟩ := s
  obtain ⟨b1, b2, b3, b4⟩ := hi
  simp only at b1 b2 b3 b4
  unfold addL
  simp only
  by_cases h1 : (valT t && isAft (a, b) (la, lb)) = false
  · rw [if_pos h1]
    cases hv : valT t
    · exact add_bad w Pr g _ t a b h hr hs hv
    · rw [hv, Bool.true_and] at h1
      exact add_bad2 w Pr g _ t a b h hr hs hv h1
  obtain ⟨hv, ha⟩ := val_aft (t := (t, (a, b))) h1
  obtain ⟨p1, p2⟩ := isAft_pos ha
  simp only at hv ha p1 p2
  rw [if_neg h1]
  by_cases h2 : (la, lb) = (0, 0)
  · rw [if_pos h2]
    injection h2 with e1 e2
    subst e1 e2
    by_cases h3 : b ≠ 1
    · rw [if_pos h3]; exact add_first_bad w Pr g out cols it li t a b h hr hs hv ha h3
    · rw [if_neg h3]
      have h3 : b = 1 := Classical.byContradiction h3
      subst h3
      exact add_first w Pr g out cols it li t a h hr hs hv ha (by omega)
  rw [if_neg h2]
  have hla : 1 ≤ la := by
    rcases b4 with q | q
    · exact absurd q h2
    · exact q
  obtain ⟨x, r, rfl⟩ : ∃ x r, cols = x :: r := by
    cases cols with
    | nil => simp at b1
    | cons x r => exact ⟨x, r, rfl⟩
  rw [List.length_cons] at b2 b3
  have hbl := begL_len out (x :: r) (t, (a, b))
  rw [List.length_cons] at hbl
  by_cases h3 : it ≠ (0, 0)
  · rw [if_pos h3]
    have hans : ansL ⟨out, x :: r, (la, lb), it, li⟩ (decide (la < a)) = (true, ⟨out, x :: r, (la, lb), (0, 0), li⟩) := by unfold ansL; rw [if_pos h3]
    generalize hB : begL out (x :: r) (t, (a, b)) = B at *
    obtain ⟨e2, o2, cs2⟩ := B
    simp only at hbl ⊢
    by_cases h4 : e2 ≠ 0
    · rw [if_pos h4]
      exact add_begin_bad w Pr g out (x :: r) la lb it li t a b h hr hs hv ha x r rfl (0, 0) li e2 o2 cs2 _ hla hans hB h4 (by omega) (by omega)
    · rw [if_neg h4]
      have h4 : e2 = 0 := Classical.byContradiction h4
      subst h4
      exact add_begin w Pr g out (x :: r) la lb it li t a b h hr hs hv ha x r rfl (0, 0) li o2 cs2 hla hans hB (by omega) (by omega) (by omega)
  rw [if_neg h3]
  by_cases h5 : la < a ∧ li ≠ (0, 0)
  · rw [if_pos h5]
    have hans : ansL ⟨out, x :: r, (la, lb), it, li⟩ (decide (la < a)) = (true, ⟨out, x :: r, (la, lb), it, (0, 0)⟩) := by
      unfold ansL; rw [if_neg h3, if_pos ⟨decide_eq_true h5.1, h5.2⟩]
    have h30 : it = (0, 0) := Classical.byContradiction h3
    subst h30
    generalize hB : begL out (x :: r) (t, (a, b)) = B at *
    obtain ⟨e2, o2, cs2⟩ := B
    simp only at hbl ⊢
    by_cases h4 : e2 ≠ 0
    · rw [if_pos h4]
      exact add_begin_bad w Pr g out (x :: r) la lb (0, 0) li t a b h hr hs hv ha x r rfl (0, 0) (0, 0) e2 o2 cs2 _ hla hans hB h4 (by omega) (by omega)
    · rw [if_neg h4]
      have h4 : e2 = 0 := Classical.byContradiction h4
      subst h4
      exact add_begin w Pr g out (x :: r) la lb (0, 0) li t a b h hr hs hv ha x r rfl (0, 0) (0, 0) o2 cs2 hla hans hB (by omega) (by omega) (by omega)
  rw [if_neg h5]
  have hans : ansL ⟨out, x :: r, (la, lb), it, li⟩ (decide (la < a)) = (false, ⟨out, x :: r, (la, lb), it, li⟩) := by
    unfold ansL
    rw [if_neg h3, if_neg (fun q => h5 ⟨of_decide_eq_true q.1, q.2⟩)]
  have hpo := procL_ok (out := out) (cols := x :: r) (t := (t, (a, b))) (decide (la < a)) b1 (by simp; omega) p2
  rw [List.length_cons] at hpo
  generalize hB : procL out (x :: r) (t, (a, b)) (decide (la < a)) = B at *
  obtain ⟨o2, cs2⟩ := B
  simp only at hpo ⊢
  exact add_proceed w Pr g out (x :: r) la lb it li t a b h hr hs hv ha o2 cs2 hla p2 b1 hans hB (by simp; omega) (by omega)

set_option maxRecDepth 100000 in
set_option maxHeartbeats 3200000 in
theorem new_any (w : World) :
    Calls Tryd.prog 16 #[] w fun e w' => e = .returned (.pointer (some ⟨w.heap.size, 0, none⟩)) ∧ BSt w' (· < w.heap.size) w.heap.size startL ∧ Below w.heap.size w w' := by
  have hB0 : BSt (w.alloc (.cells #[.slice none 0 0, .slice none 0 0, .int .i64 0, .int .i64 0, .int .i64 0, .int .i64 0, .int .i64 0, .int .i64 0] 47)) (· < w.heap.size) w.heap.size ⟨[], [], (0, 0), (0, 0), (0, 0)⟩ :=
    ⟨.slice none 0 0, .slice none 0 0, Blk.new _ _ _, World.ownsRow_nil _ _ _ _, World.ownsRow_nil _ _ _ _, Nat.lt_irrefl _, fun k hk => by simp [Value.ownBlock] at hk, fun k hk => by simp [Value.ownBlock] at hk, fun k hk => by simp; omega⟩
  have HB0 := Lib.hid hB0
  clear hB0
  go_enter Tryd.func16, Tryd.ntmps16
  go_wp2_with fail
  refine (open_any _ _ _ _ 1 1 HB0.out (by simp) (by simp)).mono ?_
  rintro e w1 ⟨rfl, hB1, hK1⟩
  have HB1 := Lib.hid hB1
  have HK1 := Lib.hid hK1
  clear hB1 hK1
  go_wp2
  go_ret
  exact ⟨rfl, HB1.out, (((Keep.refl (· < w.heap.size) w).alloc (fun _ h => h) _).trans HK1.out).to_below⟩

/-- the keyword that still waits -/
def waitL (s : LSt) : Int × Int := if s.line ≠ (0, 0) then s.line else s.item
set_option maxRecDepth 100000 in
set_option maxHeartbeats 3200000 in
theorem unanswered_any (w : World) (Pr : Nat → Prop) (g : Nat) (s : LSt) (h : BSt w Pr g s) :
    Calls Tryd.prog 18 #[.pointer (some ⟨g, 0, none⟩)] w fun e w' => e = .returned (posV (waitL s).1 (waitL s).2) ∧ Below w.heap.size w w' := by
  have hW : Hid (waitL s = if s.line ≠ (0, 0) then s.line else s.item) := rfl
  generalize waitL s = W at *
  obtain ⟨out, cols, la, ⟨i1, i2⟩, ⟨l1, l2⟩⟩ := s
  obtain ⟨vt, vc, hB⟩ := h
  have k4 : w.cell? ⟨g, 4, none⟩ = some (.int .i64 i1) := hB.blk.cell 4
  have k5 : w.cell? ⟨g, 5, none⟩ = some (.int .i64 i2) := hB.blk.cell 5
  have k6 : w.cell? ⟨g, 6, none⟩ = some (.int .i64 l1) := hB.blk.cell 6
  have k7 : w.cell? ⟨g, 7, none⟩ = some (.int .i64 l2) := hB.blk.cell 7
  have hg := hB.blk.lt
  simp only at hW
  clear hB
  rcases pair_zero (l1, l2) with h1 | ⟨h1, h2⟩
  · have hW2 : Hid (W = (i1, i2)) := hW.out.trans (if_neg (fun q => q h1))
    injection h1 with e1 e2
    subst e1 e2
    clear hW
    go_enter Tryd.func18, Tryd.ntmps18
    go_wp2
    refine bodyPost_ret (v := posV i1 i2) ?_ rfl ?_
    · simp [results, Tryd.results18, go_sem]
    · rw [hW2.out]
      exact ⟨rfl, (Below.refl _ _).alloc (Nat.le_refl _) _⟩
  · have hW2 : Hid (W = (l1, l2)) := hW.out.trans (if_pos h1)
    simp only at h2
    clear hW h1
    rcases h2 with h2 | ⟨h2, h3⟩
    all_goals
      go_enter Tryd.func18, Tryd.ntmps18
      go_wp2
      refine bodyPost_ret (v := posV l1 l2) ?_ rfl ?_
      · simp [results, Tryd.results18, go_sem]
      · rw [hW2.out]
        exact ⟨rfl, (Below.refl _ _).alloc (Nat.le_refl _) _⟩

end Go.Proofs.YtoogbgmneabfnaaDoor

namespace Go.Proofs.YtoogbgmneabfnaaDoor
open Go.RowKit M

theorem toks_at (ts : List Tok) : ∀ (k : Nat) (t : Tok), ts[k]? = some t → ∀ j u, (tokCells t)[j]? = some u → (toksCells ts)[k * 5 + j]? = some u := by
  induction ts with
  | nil => intro k t h; simp at h
  | cons a r ih =>
    intro k t h j u hu
    have e : toksCells (a :: r) = tokCells a ++ toksCells r := rfl
    have hl : (tokCells a).length = 5 := rfl
    rw [e]
    cases k with
    | zero =>
      simp at h
      subst h
      have hj : j < 5 := by
        have := List.getElem?_eq_some_iff.1 hu
        obtain ⟨h1, _⟩ := this
        exact h1
      rw [Nat.zero_mul, Nat.zero_add, List.getElem?_append_left (by rw [hl]; exact hj)]
      exact hu
    | succ k =>
      have e2 : (k + 1) * 5 + j = 5 + (k * 5 + j) := by omega
      rw [e2, List.getElem?_append_right (by omega), hl, Nat.add_sub_cancel_left]
      exact ih k t (by simpa using h) j u hu

set_option maxRecDepth 100000 in
set_option maxHeartbeats 1000000 in
theorem equal_tokens (ts : List Tok) (n : Nat) (hn : n = ts.length) (hm : n ≤ 16384) (v1 v2 : Value) (b1 b2 : Nat) (w : World)
    (h1 : w.ownsRow b1 37 5 v1 n (toksCells ts)) (h2 : w.ownsRow b2 37 5 v2 n (toksCells ts)) :
    Calls Tryd.prog 11 #[v1, v2] w fun e w' => e = .returned (.bool true) ∧ ∃ m, w' = w.drewN m := by
  by_cases h0 : n = 0
  · obtain ⟨A1, c1, rfl⟩ := owns_form h1
    obtain ⟨A2, c2, rfl⟩ := owns_form h2
    subst h0
    clear h1 h2 hn
    go_enter Tryd.func11, Tryd.ntmps11
    go_wp2
    go_loopw [5] (fun t wr => t = .int .i64 0 ∧ Hid (∃ m, wr = w.drewN m)) (fun _ _ => 0)
    case atStart => exact ⟨rfl, 0, rfl⟩
    case round =>
      obtain ⟨rfl, hW⟩ := hrel
      obtain ⟨m, rfl⟩ := hW
      go_wp2
      go_ret
      exact ⟨rfl, m, rfl⟩
  · obtain ⟨g1, c1, rfl, _, _, hc1, hcell1⟩ := owns_cell h1 (by omega)
    obtain ⟨g2, c2, rfl, _, _, hc2, hcell2⟩ := owns_cell h2 (by omega)
    have HC1 := Lib.hid (fun k t hk j u hu => hcell1 (k * 5 + j) u (toks_at ts k t hk j u hu))
    have HC2 := Lib.hid (fun k t hk j u hu => hcell2 (k * 5 + j) u (toks_at ts k t hk j u hu))
    have HN := Lib.hid hn
    clear h1 h2 hcell1 hcell2 hn
    go_enter Tryd.func11, Tryd.ntmps11
    go_wp2
    go_loopw [5] (fun t wr => ∃ k : Nat, k ≤ n ∧ t = .int .i64 k ∧ Hid (∃ m, wr = w.drewN m)) (fun t _ => n - (intOf t).toNat)
    case atStart => exact ⟨0, by omega, rfl, 0, rfl⟩
    case round =>
      obtain ⟨k, hk, rfl, hW⟩ := hrel
      obtain ⟨m, rfl⟩ := hW
      by_cases hlt : k < n
      · obtain ⟨t, ht⟩ : ∃ t, ts[k]? = some t := by
          have : k < ts.length := by rw [← HN.out]; exact hlt
          exact ⟨ts[k], List.getElem?_eq_getElem this⟩
        obtain ⟨⟨kd, nu, st, er⟩, a, b⟩ := t
        have x0 := HC1.out k _ ht 0 _ rfl
        have x1 := HC1.out k _ ht 1 _ rfl
        have x2 := HC1.out k _ ht 2 _ rfl
        have x3 := HC1.out k _ ht 3 _ rfl
        have x4 := HC1.out k _ ht 4 _ rfl
        have y0 := HC2.out k _ ht 0 _ rfl
        have y1 := HC2.out k _ ht 1 _ rfl
        have y2 := HC2.out k _ ht 2 _ rfl
        have y3 := HC2.out k _ ht 3 _ rfl
        have y4 := HC2.out k _ ht 4 _ rfl
        simp only [Nat.add_zero] at x0 y0
        clear ht
        go_wp2
        go_quiet (fail)
        go_wp2
        go_roundw
        case rel => exact ⟨k + 1, by omega, by go_num, _, rfl⟩
        case measure => simp [intOf]; omega
      · go_wp2
        go_ret
        exact ⟨rfl, m, rfl⟩

theorem owns_alloc_n {w : World} {b : Nat} {e : TypeId} {z : Nat} {v : Value} {n : Nat} {xs : List Value} (h : w.ownsRow b e z v n xs) (o : Obj) : (w.alloc o).ownsRow b e z v n xs := h.alloc o

theorem scF_length (f : Nat) : ∀ (l : Bs) (p : Int × Int) (ts : List Tok), ts.length ≤ 16384 → (scF f l p ts).1.length ≤ 16384 := by
  induction f with
  | zero => intro l p ts h; simp [scF]
  | succ f ih =>
    intro l p ts h
    rw [scF_step]
    by_cases h1 : (sk l).2 = false
    · rw [if_pos h1]; simp
    rw [if_neg h1]
    by_cases h2 : l.drop (sk l).1 = []
    · rw [if_pos h2]; exact h
    rw [if_neg h2]
    by_cases h3 : itErr (itemR (l.drop (sk l).1)) ts.length ≠ 0
    · rw [if_pos h3]; simp
    rw [if_neg h3]
    apply ih
    rw [List.length_append, List.length_singleton]
    have h4 : itErr (itemR (l.drop (sk l).1)) ts.length = 0 := Classical.byContradiction h3
    unfold itErr at h4
    by_cases h5 : (itemR (l.drop (sk l).1)).err = 0 ∧ ts.length = 16384
    · rw [if_pos h5] at h4; exact absurd h4 (by decide)
    · rw [if_neg h5] at h4
      have : ts.length ≠ 16384 := fun e => h5 ⟨h4, e⟩
      omega
theorem scan_length (l : Bs) : (scan l).1.length ≤ 16384 := by
  unfold scan
  by_cases h : 65536 < l.length
  · rw [if_pos h]; simp
  · rw [if_neg h]; exact scF_length _ _ _ _ (by simp)

end Go.Proofs.YtoogbgmneabfnaaDoor

namespace Go.Proofs.YtoogbgmneabfnaaDoor
open Go.RowKit M

/-- a slice that reads as tokens -/
def InToks (w : World) (A : Option Addr) (ts : List Tok) : Prop :=
  ts = [] ∨ ∃ (b off : Nat), A = some ⟨b, off, none⟩ ∧ b < w.heap.size ∧ ∀ (k : Nat) (t : Tok), ts[k]? = some t → ∀ (j : Nat) (u : Value), (tokCells t)[j]? = some u → w.cell? ⟨b, off + k * 5 + j, none⟩ = some u
theorem InToks.keep {Pr : Nat → Prop} {w w' : World} {A : Option Addr} {ts : List Tok} (h : InToks w A ts) (hk : Keep Pr w w') (hp : ∀ b, b < w.heap.size → Pr b) : InToks w' A ts := by
  rcases h with h | ⟨b, off, rfl, hb, hc⟩
  · exact .inl h
  · exact .inr ⟨b, off, rfl, Nat.lt_of_lt_of_le hb hk.size, fun k t ht j u hu => (hk.cell (hp b hb) _).trans (hc k t ht j u hu)⟩
theorem InToks.below {w w' : World} {A : Option Addr} {ts : List Tok} (h : InToks w A ts) (hb : Below w.heap.size w w') : InToks w' A ts :=
  h.keep (Pr := (· < w.heap.size)) ⟨hb.os, hb.tape, hb.output, hb.size, hb.block⟩ (fun _ q => q)
theorem InToks.alloc {w : World} {A : Option Addr} {ts : List Tok} (h : InToks w A ts) (o : Obj) : InToks (w.alloc o) A ts := h.below ((Below.refl _ _).alloc (Nat.le_refl _) o)
theorem InToks.drewN {w : World} {A : Option Addr} {ts : List Tok} (h : InToks w A ts) (n : Nat) : InToks (w.drewN n) A ts := h
theorem InToks.own {w : World} {b : Nat} {ts : List Tok} {A : Option Addr} {n c : Nat} (h : w.ownsRow b 37 5 (.slice A n c) n (toksCells ts)) (hn : n = ts.length) : InToks w A ts := by
  by_cases h0 : n = 0
  · exact .inl (List.eq_nil_of_length_eq_zero (by omega))
  · obtain ⟨g, c', e, _, hlt, _, hcell⟩ := owns_cell h (by omega)
    injection e with e1 e2 e3
    subst e1
    refine .inr ⟨g, 0, rfl, hlt, fun k t ht j u hu => ?_⟩
    rw [Nat.zero_add]
    exact hcell _ u (toks_at ts k t ht j u hu)

end Go.Proofs.YtoogbgmneabfnaaDoor
