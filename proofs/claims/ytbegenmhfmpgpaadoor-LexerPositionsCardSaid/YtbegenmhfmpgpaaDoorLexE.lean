/- Two rows of the same tokens are equal; how many tokens a scan returns. -/
import Derived.Test.YtbegenmhfmpgpaaDoorLexY0
namespace Go.Proofs.YtbegenmhfmpgpaaDoor
open Go.RowKit M

theorem toks_at (ts : List Tok) : ∀ (k : Nat) (t : Tok), ts[k]? = some t → ∀ j u, (tokCells t)[j]? = some u → (toksCells ts)[k * 5 + j]? = some u := by
  induction ts with
  | nil => intro k t h; simp at h
  | cons a r ih =>
    intro k t h j u hu
    have e : toksCells (a :: r) = tokCells a ++ toksCells r := rfl
    have hl : (tokCells a).length = 5 := rfl
    rw [e]
    cases k with
    | zero =>
      simp at h
      subst h
      have hj : j < 5 := by
        have := List.getElem?_eq_some_iff.1 hu
        obtain ⟨h1, _⟩ := this
        exact h1
      rw [Nat.zero_mul, Nat.zero_add, List.getElem?_append_left (by rw [hl]; exact hj)]
      exact hu
    | succ k =>
      have e2 : (k + 1) * 5 + j = 5 + (k * 5 + j) := by omega
      rw [e2, List.getElem?_append_right (by omega), hl, Nat.add_sub_cancel_left]
      exact ih k t (by simpa using h) j u hu

set_option maxRecDepth 100000 in
set_option maxHeartbeats 1000000 in
theorem equal_tokens (ts : List Tok) (n : Nat) (hn : n = ts.length) (hm : n ≤ 16384) (v1 v2 : Value) (b1 b2 : Nat) (w : World)
    (h1 : w.ownsRow b1 25 5 v1 n (toksCells ts)) (h2 : w.ownsRow b2 25 5 v2 n (toksCells ts)) :
    Calls Tryd.prog 48 #[v1, v2] w fun e w' => e = .returned (.bool true) ∧ ∃ m, w' = w.drewN m := by
  by_cases h0 : n = 0
  · obtain ⟨A1, c1, rfl⟩ := owns_form h1
    obtain ⟨A2, c2, rfl⟩ := owns_form h2
    subst h0
    clear h1 h2 hn
    go_enter Tryd.func48, Tryd.ntmps48
    go_wp2
    go_loopw [5] (fun t wr => t = .int .i64 0 ∧ Hid (∃ m, wr = w.drewN m)) (fun _ _ => 0)
    case atStart => exact ⟨rfl, 0, rfl⟩
    case round =>
      obtain ⟨rfl, hW⟩ := hrel
      obtain ⟨m, rfl⟩ := hW
      go_wp2
      go_ret
      exact ⟨rfl, m, rfl⟩
  · obtain ⟨g1, c1, rfl, _, _, hc1, hcell1⟩ := owns_cell h1 (by omega)
    obtain ⟨g2, c2, rfl, _, _, hc2, hcell2⟩ := owns_cell h2 (by omega)
    have HC1 := Lib.hid (fun k t hk j u hu => hcell1 (k * 5 + j) u (toks_at ts k t hk j u hu))
    have HC2 := Lib.hid (fun k t hk j u hu => hcell2 (k * 5 + j) u (toks_at ts k t hk j u hu))
    have HN := Lib.hid hn
    clear h1 h2 hcell1 hcell2 hn
    go_enter Tryd.func48, Tryd.ntmps48
    go_wp2
    go_loopw [5] (fun t wr => ∃ k : Nat, k ≤ n ∧ t = .int .i64 k ∧ Hid (∃ m, wr = w.drewN m)) (fun t _ => n - (intOf t).toNat)
    case atStart => exact ⟨0, by omega, rfl, 0, rfl⟩
    case round =>
      obtain ⟨k, hk, rfl, hW⟩ := hrel
      obtain ⟨m, rfl⟩ := hW
      by_cases hlt : k < n
      · obtain ⟨t, ht⟩ : ∃ t, ts[k]? = some t := by
          have : k < ts.length := by rw [← HN.out]; exact hlt
          exact ⟨ts[k], List.getElem?_eq_getElem this⟩
        obtain ⟨⟨kd, nu, st, er⟩, a, b⟩ := t
        have x0 := HC1.out k _ ht 0 _ rfl
        have x1 := HC1.out k _ ht 1 _ rfl
        have x2 := HC1.out k _ ht 2 _ rfl
        have x3 := HC1.out k _ ht 3 _ rfl
        have x4 := HC1.out k _ ht 4 _ rfl
        have y0 := HC2.out k _ ht 0 _ rfl
        have y1 := HC2.out k _ ht 1 _ rfl
        have y2 := HC2.out k _ ht 2 _ rfl
        have y3 := HC2.out k _ ht 3 _ rfl
        have y4 := HC2.out k _ ht 4 _ rfl
        simp only [Nat.add_zero] at x0 y0
        clear ht
        go_wp2
        go_quiet (fail)
        go_wp2
        go_roundw
        case rel => exact ⟨k + 1, by omega, by go_num, _, rfl⟩
        case measure => simp [intOf]; omega
      · go_wp2
        go_ret
        exact ⟨rfl, m, rfl⟩

theorem owns_alloc_n {w : World} {b : Nat} {e : TypeId} {z : Nat} {v : Value} {n : Nat} {xs : List Value} (h : w.ownsRow b e z v n xs) (o : Obj) : (w.alloc o).ownsRow b e z v n xs := h.alloc o

theorem scF_length (f : Nat) : ∀ (l : Bs) (p : Int × Int) (ts : List Tok), ts.length ≤ 16384 → (scF f l p ts).1.length ≤ 16384 := by
  induction f with
  | zero => intro l p ts h; simp [scF]
  | succ f ih =>
    intro l p ts h
    rw [scF_step]
    by_cases h1 : (sk l).2 = false
    · rw [if_pos h1]; simp
    rw [if_neg h1]
    by_cases h2 : l.drop (sk l).1 = []
    · rw [if_pos h2]; exact h
    rw [if_neg h2]
    by_cases h3 : itErr (itemR (l.drop (sk l).1)) ts.length ≠ 0
    · rw [if_pos h3]; simp
    rw [if_neg h3]
    apply ih
    rw [List.length_append, List.length_singleton]
    have h4 : itErr (itemR (l.drop (sk l).1)) ts.length = 0 := Classical.byContradiction h3
    unfold itErr at h4
    by_cases h5 : (itemR (l.drop (sk l).1)).err = 0 ∧ ts.length = 16384
    · rw [if_pos h5] at h4; exact absurd h4 (by decide)
    · rw [if_neg h5] at h4
      have : ts.length ≠ 16384 := fun e => h5 ⟨h4, e⟩
      omega
theorem scan_length (l : Bs) : (scan l).1.length ≤ 16384 := by
  unfold scan
  by_cases h : 65536 < l.length
  · rw [if_pos h]; simp
  · rw [if_neg h]; exact scF_length _ _ _ _ (by simp)

end Go.Proofs.YtbegenmhfmpgpaaDoor
