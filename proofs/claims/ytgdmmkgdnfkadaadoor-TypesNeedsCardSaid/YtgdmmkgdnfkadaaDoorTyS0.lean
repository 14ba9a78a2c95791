/- Needs: a list of rows (variable, classes), and where a variable goes into it. No program in it. No conditions. -/
import Derived.Test.YtgdmmkgdnfkadaaDoorTyQ
import Derived.Laws.OwnMore
import Derived.Laws.CopyOwn
import Derived.Laws.Tables
import Derived.Test.YtgdmmkgdnfkadaaDoorCpy
namespace Go.Proofs.YtgdmmkgdnfkadaaDoor
open Go.RowKit M

def nq (c : Int) (v : Int) : List Value := [.int .i64 v, .int .i64 c]
theorem nq_len (c v : Int) : (nq c v).length = 2 := rfl
theorem nq_one (c : Int) (l : List Int) : ∀ u ∈ l.flatMap (nq c), u.oneCell' = true := by
  intro u hu
  obtain ⟨v, _, h⟩ := List.mem_flatMap.1 hu
  unfold nq at h
  simp at h
  rcases h with rfl | rfl <;> rfl
/-- the place of a variable -/
def pos (l : List Int) (v : Int) : Nat := (l.takeWhile fun x => decide (x < v)).length
theorem pos_cons (a v : Int) (r : List Int) : pos (a :: r) v = if a < v then pos r v + 1 else 0 := by
  unfold pos
  by_cases h : a < v
  · simp [h]
  · simp [h]
theorem pos_le (l : List Int) (v : Int) : pos l v ≤ l.length := by
  induction l with
  | nil => simp [pos]
  | cons a r ih => rw [pos_cons]; split <;> simp; omega
theorem pos_lt (l : List Int) (v : Int) : ∀ {k : Nat}, k < pos l v → ∃ x, l[k]? = some x ∧ x < v := by
  induction l with
  | nil => intro k h; simp [pos] at h
  | cons a r ih =>
    intro k h
    rw [pos_cons] at h
    by_cases ha : a < v
    · rw [if_pos ha] at h
      cases k with
      | zero => exact ⟨a, rfl, ha⟩
      | succ k =>
        obtain ⟨x, h1, h2⟩ := ih (k := k) (by omega)
        exact ⟨x, by simpa using h1, h2⟩
    · rw [if_neg ha] at h; omega
theorem pos_at (l : List Int) (v : Int) (h : pos l v < l.length) : ∃ x, l[pos l v]? = some x ∧ ¬ x < v := by
  induction l with
  | nil => simp at h
  | cons a r ih =>
    rw [pos_cons] at h ⊢
    by_cases ha : a < v
    · rw [if_pos ha] at h ⊢
      obtain ⟨x, h1, h2⟩ := ih (by simp at h; omega)
      exact ⟨x, by simpa using h1, h2⟩
    · rw [if_neg ha]; exact ⟨a, rfl, ha⟩
theorem insV_there (l : List Int) (v : Int) (h : l[pos l v]? = some v) : insV l v = l := by
  induction l with
  | nil => simp at h
  | cons a r ih =>
    rw [pos_cons] at h
    rw [insV_cons]
    by_cases ha : a < v
    · rw [if_pos ha] at h ⊢
      rw [ih (by simpa using h)]
    · rw [if_neg ha] at h ⊢
      have : a = v := by simpa using h
      rw [if_pos this]
theorem insV_new (l : List Int) (v : Int) (h : l[pos l v]? ≠ some v) : insV l v = l.take (pos l v) ++ v :: l.drop (pos l v) := by
  induction l with
  | nil => simp [insV, pos]
  | cons a r ih =>
    rw [pos_cons] at h ⊢
    rw [insV_cons]
    by_cases ha : a < v
    · rw [if_pos ha] at h ⊢
      rw [if_pos ha, ih (by simpa using h)]
      rfl
    · rw [if_neg ha] at h ⊢
      rw [if_neg ha]
      have : a ≠ v := by simpa using h
      rw [if_neg this]
      rfl
theorem insV_len (l : List Int) (v : Int) : (insV l v).length ≤ l.length + 1 := by
  by_cases h : l[pos l v]? = some v
  · rw [insV_there l v h]; omega
  · rw [insV_new l v h]; simp; have := pos_le l v; omega
theorem nq_set (c v : Int) (a b : Value) : ∀ (P Q : List Int), ((P.flatMap (nq c) ++ ([a, b] ++ Q.flatMap (nq c))).set (P.length * 2) (.int .i64 v)).set (P.length * 2 + 1) (.int .i64 c) = (P ++ v :: Q).flatMap (nq c) := by
  intro P Q
  have hl := flat_len (f := nq c) (z := 2) (nq_len c) P
  rw [List.set_append_right _ _ (by omega), List.set_append_right _ _ (by omega), hl, Nat.sub_self, Nat.add_sub_cancel_left, List.flatMap_append, List.flatMap_cons]
  rfl
theorem row_new (c : Int) {l : List Int} {k : Nat} (hk : k = l.length) (a b : Value) : l.flatMap (nq c) ++ [a, b] = (l.take k).flatMap (nq c) ++ ([a, b] ++ (l.drop k).flatMap (nq c)) := by
  subst hk; simp
theorem row_moved (c x : Int) {l : List Int} {k : Nat} (hx : l[k]? = some x) (zs : List Value) : (l.flatMap (nq c) ++ zs).take ((k + 1) * 2) ++ (l.drop k).flatMap (nq c) = (l.take k).flatMap (nq c) ++ ([.int .i64 x, .int .i64 c] ++ (l.drop k).flatMap (nq c)) := by
  have hk : k < l.length := by
    rcases Nat.lt_or_ge k l.length with h | h
    · exact h
    · rw [List.getElem?_eq_none h] at hx; cases hx
  have hl := flat_len (f := nq c) (z := 2) (nq_len c) l
  rw [List.take_append_of_le_length (by omega), ← flat_take (nq_len c), List.take_add_one, hx]
  simp [nq]
theorem set_same {l : List Value} {i : Nat} {u : Value} (h : l[i]? = some u) : l.set i u = l := by
  apply List.ext_getElem?
  intro j
  rw [List.getElem?_set]
  split
  · rename_i e; subst e
    split
    · exact h.symm
    · rename_i hl; rw [List.getElem?_eq_none (by omega)] at h; cases h
  · rfl
/-- what the copy leaves -/
theorem row_spliced {cur xs cs : List Value} {a m : Nat} (h : cur.take m = xs) (hm : m ≤ cur.length) (ha : a + cs.length = m) : (cur.take a ++ cs ++ cur.drop (a + cs.length)).take m = xs.take a ++ cs := by
  rw [← h, List.take_take, Nat.min_eq_left (by omega), List.take_append_of_le_length (by simp; omega)]
  exact List.take_of_length_le (by simp; omega)
/-- a row that has been written over as a whole -/
theorem owns_row {w : World} {base g : Nat} {e : TypeId} {size n cap : Nat} {xs ys : List Value} (h : w.ownsRow base e size (.slice (some ⟨g, 0, none⟩) n cap) n xs) :
    ∃ cur, Blk w g e cur ∧ cur.size = cap * size ∧ n ≤ cap ∧ cur.toList.take (n * size) = xs ∧ base ≤ g ∧
      (∀ cs : Array Value, cs.size = cur.size → ys.length = n * size → cs.toList.take (n * size) = ys → (w.setRow g cs).ownsRow base e size (.slice (some ⟨g, 0, none⟩) n cap) n ys) := by
  rcases h.2 with ⟨h', _⟩ | ⟨g', cap', cur, h', hb, hg, hnc, hcm, hcs, htake⟩
  · simp at h'
  · simp only [Value.slice.injEq, Option.some.injEq, Addr.mk.injEq, and_true, true_and] at h'
    obtain ⟨rfl, rfl⟩ := h'
    refine ⟨cur, hg, hcs, hnc, htake, hb, fun cs h1 h2 h3 => ⟨h2, .inr ⟨g, cap, cs, rfl, hb, ?_, hnc, hcm, by rw [h1]; exact hcs, h3⟩⟩⟩
    exact setRow_heap w g cur cs e (0, 0) hg

end Go.Proofs.YtgdmmkgdnfkadaaDoor
