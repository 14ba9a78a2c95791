/- Rows of tokens: one token turned in place; the positions in what Insert returns. No conditions. -/
import Derived.Test.YtebfnlahiodefaaDoorLayL2
import Derived.Laws.OwnMore
import Derived.Laws.AppendOwnNone
namespace Go.Proofs.YtebfnlahiodefaaDoor
open Go.RowKit M

theorem toks_length (ts : List Tok) : (toksCells ts).length = ts.length * 5 := by
  induction ts with
  | nil => rfl
  | cons t r ih => show (tokCells t ++ toksCells r).length = _; rw [List.length_append, ih]; simp [tokCells]; omega
theorem toks_set (ts : List Tok) : ∀ (k : Nat) (j : Nat) (u : Value) (t t' : Tok), ts[k]? = some t → j < 5 → (tokCells t).set j u = tokCells t' → (toksCells ts).set (k * 5 + j) u = toksCells (ts.set k t') := by
  induction ts with
  | nil => intro k j u t t' h; simp at h
  | cons a r ih =>
    intro k j u t t' h hj hu
    have e : toksCells (a :: r) = tokCells a ++ toksCells r := rfl
    have hl : (tokCells a).length = 5 := rfl
    cases k with
    | zero =>
      simp at h
      subst h
      rw [e, Nat.zero_mul, Nat.zero_add, List.set_append_left _ _ (by rw [hl]; exact hj), hu]
      rfl
    | succ k =>
      have e2 : (k + 1) * 5 + j = 5 + (k * 5 + j) := by omega
      rw [e, e2, List.set_append_right _ _ (by rw [hl]; omega), hl, Nat.add_sub_cancel_left, ih k j u t t' (by simpa using h) hj hu]
      rfl
theorem owns_tok {w : World} {b g n c : Nat} {ts : List Tok} (h : w.ownsRow b 25 5 (.slice (some ⟨g, 0, none⟩) n c) n (toksCells ts)) {k : Nat} {t : Tok} (ht : ts[k]? = some t) (j : Nat) (hj : j < 5) (u : Value) (t' : Tok)
    (hu : (tokCells t).set j u = tokCells t') : (w.setCell ⟨g, k * 5 + j, none⟩ u).ownsRow b 25 5 (.slice (some ⟨g, 0, none⟩) n c) n (toksCells (ts.set k t')) := by
  have := (h.stored (k * 5 + j) u).1
  rwa [toks_set ts k j u t t' ht hj hu] at this

end Go.Proofs.YtebfnlahiodefaaDoor
namespace Go.Proofs.YtebfnlahiodefaaDoor.M
open Go
theorem popC_pos {P : Int × Int → Prop} (c : Int) (p : Int × Int) (hp : P p) : ∀ (cols : List Int) (out : List Tok), (∀ u ∈ out, P u.2) → ∀ u ∈ (popC c p out cols).1, P u.2 := by
  intro cols
  induction cols with
  | nil => intro out h; exact h
  | cons x r ih =>
    intro out h
    unfold popC
    split
    · refine ih _ (fun u hu => ?_)
      rcases List.mem_append.1 hu with hu | hu
      · exact h u hu
      · rw [List.mem_singleton] at hu; subst hu; exact hp
    · exact h
theorem add_pos {P : Int × Int → Prop} (s : LSt) (t : Tok) (h : ∀ u ∈ s.out, P u.2) (ht : P t.2) : ∀ u ∈ (addL s t).2.out, P u.2 := by
  have hsn : ∀ (o : List Tok) (x : Tok), (∀ u ∈ o, P u.2) → P x.2 → ∀ u ∈ o ++ [x], P u.2 := by
    intro o x ho hx u hu
    rcases List.mem_append.1 hu with hu | hu
    · exact ho u hu
    · rw [List.mem_singleton] at hu; subst hu; exact hx
  have hbeg : ∀ u ∈ (begL s.out s.cols t).2.1, P u.2 := by
    unfold begL
    split
    · intro u hu
      have : s.out ++ [mkT 5 t.2, mkT 7 t.2] = (s.out ++ [mkT 5 t.2]) ++ [mkT 7 t.2] := by simp
      simp only at hu
      rw [this] at hu
      exact hsn _ (mkT 7 t.2) (hsn _ (mkT 5 t.2) h ht) ht u hu
    · split
      · exact h
      · split
        · exact h
        · exact hsn _ _ h ht
  have hproc : ∀ st, ∀ u ∈ (procL s.out s.cols t st).1, P u.2 := by
    intro st
    have hp : ∀ u ∈ (popS st s.out s.cols t).1, P u.2 := by
      unfold popS
      split
      · exact popC_pos _ _ ht _ _ h
      · exact h
    unfold procL
    generalize popS st s.out s.cols t = r at *
    unfold procE
    split
    · split
      · exact hsn _ _ hp ht
      · exact hp
    · split
      · exact hsn _ _ hp ht
      · exact hp
  unfold addL
  split
  · exact h
  · split
    · split
      · exact h
      · exact hsn _ _ h ht
    · split
      · split
        · exact h
        · exact hsn _ _ hbeg ht
      · split
        · split
          · exact h
          · exact hsn _ _ hbeg ht
        · exact hsn _ _ (hproc _) ht
theorem insF_pos {P : Int × Int → Prop} (h0 : P (0, 0)) : ∀ (l : List Tok) (s : LSt), (∀ u ∈ s.out, P u.2) → (∀ t ∈ l, P t.2) → ∀ u ∈ (insF s l).1, P u.2 := by
  intro l
  induction l with
  | nil =>
    intro s hs _ u hu
    have hu : u ∈ (endL s).1 := hu
    unfold endL at hu
    split at hu
    · simp at hu
    · split at hu
      · simp at hu
      · simp only at hu
        rcases List.mem_append.1 hu with hu | hu
        · exact hs u hu
        · rw [List.eq_of_mem_replicate hu]; exact h0
  | cons t r ih =>
    intro s hs hl
    rw [insF_cons]
    split
    · intro u hu; simp at hu
    · exact ih _ (add_pos s t hs (hl t (by simp))) (fun x hx => hl x (by simp [hx]))
theorem insL_pos {P : Int × Int → Prop} (h0 : P (0, 0)) (h1 : P (1, 1)) (l : List Tok) (hl : ∀ t ∈ l, P t.2) : ∀ u ∈ (insL l).1, P u.2 :=
  insF_pos h0 l startL (by intro u hu; have : u = mkT 5 (1, 1) := by simpa [startL] using hu
                           subst this; exact h1) hl

end Go.Proofs.YtebfnlahiodefaaDoor.M
