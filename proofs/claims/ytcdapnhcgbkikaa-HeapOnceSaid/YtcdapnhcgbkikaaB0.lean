/- Words on worlds, blocks, rows that a call owns and slices that read as a list. No conditions. -/
import Derived.Test.YtcdapnhcgbkikaaRows
import Derived.WalkKit
import Derived.WalkSpells
import Derived.Below
import Derived.IntWalk
import Derived.Lib.Hide
import Derived.Laws.OwnMore
import Derived.Laws.Rows
import Derived.Maps.AppendAt
import Derived.Deep.AppendLies
import Derived.Deep.Draws
import Derived.Deep.QuietTactic
import Derived.RegionTactic
import Derived.OwnWalk
import Derived.KernelRfl
import Derived.ChangeAlike
namespace Go.Proofs.Ytcdapnhcgbkikaa
open Go.RowKit

theorem ret_bool {a b : Bool} (h : a = b) : Ending.returned (.bool a) = .returned (.bool b) := by rw [h]
theorem ret_int {k : IntKind} {a b : Int} (h : a = b) : Ending.returned (.int k a) = .returned (.int k b) := by rw [h]
theorem int_val {k : IntKind} {a b : Int} (h : a = b) : Value.int k a = .int k b := by rw [h]
theorem hide {p : Prop} (h : p) : Hid p := h
theorem unhide {p : Prop} (h : Hid p) : p := h

/-! what a call leaves as it was -/
theorem below_drew {B : Nat} {a w : World} (h : Below B a w) : Below B a w.drew := ⟨h.os, h.tape, h.output, h.size, h.block⟩
theorem below_drewN {B : Nat} {a w : World} (h : Below B a w) (n : Nat) : Below B a (w.drewN n) := ⟨h.os, h.tape, h.output, h.size, h.block⟩
theorem below_grown {B g : Nat} {a w w' : World} (h : Below B a w) (k : w.grownBy w' (some g)) (hg : B ≤ g) (hB : B ≤ a.heap.size) : Below B a w' :=
  ⟨k.os.trans h.os, k.tape.trans h.tape, k.output.trans h.output, Nat.le_trans h.size k.size, fun i hi => (k.block i (by have := h.size; omega) (by intro e; injection e; omega)).trans (h.block i hi)⟩
/-- growth of a row of the call's own -/
theorem below_row {a w w' : World} {v : Value} (h : Below a.heap.size a w) (k : w.grownBy w' v.ownBlock) (hv : ∀ j, v.ownBlock = some j → a.heap.size ≤ j) : Below a.heap.size a w' :=
  ⟨k.os.trans h.os, k.tape.trans h.tape, k.output.trans h.output, Nat.le_trans h.size k.size, fun i hi => (k.block i (Nat.lt_of_lt_of_le hi h.size) (fun e => by have := hv i e.symm; omega)).trans (h.block i hi)⟩
theorem only_refl (a : World) (row : Option Nat) : a.grownBy a row := ⟨rfl, rfl, rfl, Nat.le_refl _, fun _ _ _ => rfl⟩
theorem only_trans {a b c : World} {row : Option Nat} (h : a.grownBy b row) (k : b.grownBy c row) : a.grownBy c row :=
  ⟨k.os.trans h.os, k.tape.trans h.tape, k.output.trans h.output, Nat.le_trans h.size k.size, fun i hi hne => (k.block i (Nat.lt_of_lt_of_le hi h.size) hne).trans (h.block i hi hne)⟩
theorem only_set {a w : World} {g : Nat} (h : a.grownBy w (some g)) (o : Nat) (u : Value) : a.grownBy (w.setCell ⟨g, o, none⟩ u) (some g) :=
  ⟨h.os, h.tape, h.output, by simpa [World.setCell] using h.size, fun i hi hne => (Below.heap_setCell w _ u i (fun e => hne (by rw [e]))).trans (h.block i hi hne)⟩
theorem only_drewN {a w : World} {row : Option Nat} (h : a.grownBy w row) (n : Nat) : a.grownBy (w.drewN n) row := ⟨h.os, h.tape, h.output, h.size, h.block⟩
theorem only_alloc {a w : World} {row : Option Nat} (h : a.grownBy w row) (o : Obj) : a.grownBy (w.alloc o) row :=
  ⟨h.os, h.tape, h.output, Nat.le_trans h.size (by simp), fun i hi hne => (Below.heap_alloc w o i (Nat.lt_of_lt_of_le hi h.size)).trans (h.block i hi hne)⟩
theorem only_below {a w : World} (h : Below a.heap.size a w) (row : Option Nat) : a.grownBy w row := ⟨h.os, h.tape, h.output, h.size, fun i hi _ => h.block i hi⟩
theorem lt_of_some {w : World} {b : Nat} {o : Obj} (h : w.heap[b]? = some o) : b < w.heap.size := by
  rcases Nat.lt_or_ge b w.heap.size with hlt | hge
  · exact hlt
  · rw [Array.getElem?_eq_none hge] at h; cases h
theorem add_at (b o n : Nat) : (⟨b, o, none⟩ : Addr).add n = ⟨b, o + n, none⟩ := by unfold Addr.add; split <;> simp_all

/-! the blocks of Pr are as they were -/
structure Keep (Pr : Nat → Prop) (w w' : World) : Prop where
  os : w'.os = w.os
  tape : w'.tape = w.tape
  output : w'.output = w.output
  size : w.heap.size ≤ w'.heap.size
  block : ∀ k, Pr k → w'.heap[k]? = w.heap[k]?
section
variable {Pr Pr' : Nat → Prop} {w w' w'' a : World}
theorem Keep.refl (Pr : Nat → Prop) (w : World) : Keep Pr w w := ⟨rfl, rfl, rfl, Nat.le_refl _, fun _ _ => rfl⟩
theorem Keep.trans (h : Keep Pr a w) (k : Keep Pr w w') : Keep Pr a w' :=
  ⟨k.os.trans h.os, k.tape.trans h.tape, k.output.trans h.output, Nat.le_trans h.size k.size, fun i hi => (k.block i hi).trans (h.block i hi)⟩
theorem Keep.mono (h : Keep Pr a w) (hp : ∀ k, Pr' k → Pr k) : Keep Pr' a w := ⟨h.os, h.tape, h.output, h.size, fun k hk => h.block k (hp k hk)⟩
theorem Keep.alloc (h : Keep Pr a w) (hp : ∀ k, Pr k → k < a.heap.size) (o : Obj) : Keep Pr a (w.alloc o) :=
  ⟨h.os, h.tape, h.output, Nat.le_trans h.size (by simp), fun i hi => (Below.heap_alloc w o i (Nat.lt_of_lt_of_le (hp i hi) h.size)).trans (h.block i hi)⟩
theorem Keep.setCell (h : Keep Pr a w) {p : Addr} (hp : ¬ Pr p.block) (u : Value) : Keep Pr a (w.setCell p u) :=
  ⟨h.os, h.tape, h.output, by simpa [World.setCell] using h.size, fun i hi => (Below.heap_setCell w p u i (fun e => hp (by rw [← e]; exact hi))).trans (h.block i hi)⟩
theorem Keep.drew (h : Keep Pr a w) : Keep Pr a w.drew := ⟨h.os, h.tape, h.output, h.size, h.block⟩
theorem Keep.drewN (h : Keep Pr a w) (n : Nat) : Keep Pr a (w.drewN n) := ⟨h.os, h.tape, h.output, h.size, h.block⟩
theorem Keep.grown {row : Option Nat} (h : Keep Pr a w) (k : w.grownBy w' row) (hp : ∀ k, Pr k → k < a.heap.size) (hr : ∀ k, row = some k → ¬ Pr k) : Keep Pr a w' :=
  ⟨k.os.trans h.os, k.tape.trans h.tape, k.output.trans h.output, Nat.le_trans h.size k.size, fun i hi => (k.block i (Nat.lt_of_lt_of_le (hp i hi) h.size) (fun e => hr i e.symm hi)).trans (h.block i hi)⟩
theorem Keep.below {B : Nat} (h : Below B w w') (hp : ∀ k, Pr k → k < B) : Keep Pr w w' := ⟨h.os, h.tape, h.output, h.size, fun k hk => h.block k (hp k hk)⟩
theorem Keep.to_below {B : Nat} (h : Keep (· < B) w w') : Below B w w' := ⟨h.os, h.tape, h.output, h.size, h.block⟩
theorem Keep.cell (h : Keep Pr w w') {b : Nat} (hb : Pr b) (o : Nat) : w'.cell? ⟨b, o, none⟩ = w.cell? ⟨b, o, none⟩ := World.cell?_of_block (h.block b hb)
theorem Keep.frozen (h : Keep Pr w w') {b : Nat} (hb : Pr b) (o : Nat) : w'.frozen? ⟨b, o, none⟩ = w.frozen? ⟨b, o, none⟩ := by
  simp [World.frozen?, h.block b hb]
end

/-! a block that is known whole -/
def Blk (w : World) (g : Nat) (t : TypeId) (cs : Array Value) : Prop := w.heap[g]? = some (.cells cs t (0, 0))
section
variable {w w' : World} {g : Nat} {t : TypeId} {cs : Array Value}
theorem Blk.lt (h : Blk w g t cs) : g < w.heap.size := lt_of_some h
theorem Blk.cell (h : Blk w g t cs) (i : Nat) : w.cell? ⟨g, i, none⟩ = cs[i]? := cell_of_row w g i cs t (0, 0) h
theorem Blk.frozen (h : Blk w g t cs) (i : Nat) : w.frozen? ⟨g, i, none⟩ = false := by
  unfold Blk at h
  simp [World.frozen?, h]
theorem Blk.new (w : World) (t : TypeId) (cs : Array Value) : Blk (w.alloc (.cells cs t)) w.heap.size t cs := heap_alloc_new w _
theorem Blk.drew (h : Blk w g t cs) : Blk w.drew g t cs := h
theorem Blk.drewN (h : Blk w g t cs) (n : Nat) : Blk (w.drewN n) g t cs := h
theorem Blk.alloc (h : Blk w g t cs) (o : Obj) : Blk (w.alloc o) g t cs := (Below.heap_alloc w o g h.lt).trans h
theorem Blk.set_ (h : Blk w g t cs) (i : Nat) (u : Value) : Blk (w.setCell ⟨g, i, none⟩ u) g t (cs.setIfInBounds i u) := by
  unfold Blk at h ⊢
  simp [World.setCell, Array.getElem?_modify, h]
theorem Blk.far (h : Blk w g t cs) {p : Addr} (hp : g ≠ p.block) (u : Value) : Blk (w.setCell p u) g t cs := (Below.heap_setCell w p u g hp).trans h
theorem Blk.below {B : Nat} (h : Blk w g t cs) (hb : Below B w w') (hg : g < B) : Blk w' g t cs := (hb.block g hg).trans h
theorem Blk.grown {row : Option Nat} (h : Blk w g t cs) (hb : w.grownBy w' row) (hg : some g ≠ row) : Blk w' g t cs := (hb.block g h.lt hg).trans h
theorem Blk.keep {Pr : Nat → Prop} (h : Blk w g t cs) (hb : Keep Pr w w') (hg : Pr g) : Blk w' g t cs := (hb.block g hg).trans h
theorem Blk.ne_ {g' : Nat} {t' : TypeId} {cs' : Array Value} (h : Blk w g t cs) (h' : Blk w g' t' cs') (hne : t ≠ t') : g ≠ g' := by
  rintro rfl
  unfold Blk at h h'
  rw [h] at h'
  injection h' with h'
  injection h' with _ ht
  exact hne ht
theorem own_blk_ne {base : Nat} {e : TypeId} {size n : Nat} {v : Value} {xs : List Value} (h : w.ownsRow base e size v n xs) (hg : Blk w g t cs) (hne : e ≠ t) : v.ownBlock ≠ some g := by
  rcases h.2 with ⟨rfl, _⟩ | ⟨g', cap, cur, rfl, _, hh, _⟩
  · simp [Value.ownBlock]
  · intro he
    have : g' = g := by simpa [Value.ownBlock] using he
    subst this
    exact Blk.ne_ (t := e) hh hg hne rfl
end

/-! rows that a call owns -/
section
variable {w w' : World} {b b' : Nat} {e e' : TypeId} {z z' n n' : Nat} {v v' : Value} {xs xs' : List Value}
theorem owns_form (h : w.ownsRow b e z v n xs) : ∃ A c, v = .slice A n c := by
  rcases h.2 with ⟨rfl, rfl⟩ | ⟨g, cap, cur, rfl, _⟩
  · exact ⟨_, _, rfl⟩
  · exact ⟨_, _, rfl⟩
theorem owns_base (h : w.ownsRow b e z v n xs) (hb : b' ≤ b) : w.ownsRow b' e z v n xs := by
  obtain ⟨h1, h2⟩ := h
  refine ⟨h1, ?_⟩
  rcases h2 with h2 | ⟨g, cap, cur, a, c, d⟩
  · exact .inl h2
  · exact .inr ⟨g, cap, cur, a, by omega, d⟩
theorem owns_below (h : w.ownsRow b e z v n xs) (hb : Below w.heap.size w w') : w'.ownsRow b e z v n xs := by
  refine h.kept (row := none) ⟨hb.os, hb.tape, hb.output, hb.size, fun k hk _ => hb.block k hk⟩ ?_
  cases ho : v.ownBlock with
  | none => exact .inl rfl
  | some k => exact .inr (by simp)
theorem owns_other {row : Option Nat} (h : w.ownsRow b e z v n xs) (hg : w.grownBy w' row) (hr : ∀ k, v.ownBlock = some k → row ≠ some k) : w'.ownsRow b e z v n xs := by
  refine h.kept hg ?_
  cases ho : v.ownBlock with
  | none => exact .inl rfl
  | some k => exact .inr (fun q => hr k ho q.symm)
theorem owns_set {g o : Nat} (h : w.ownsRow b e z v n xs) (hg : v.ownBlock ≠ some g) (u : Value) : (w.setCell ⟨g, o, none⟩ u).ownsRow b e z v n xs := by
  refine h.kept (only_set (only_refl w (some g)) o u) ?_
  cases ho : v.ownBlock with
  | none => exact .inl rfl
  | some k => exact .inr (fun q => hg (by rw [ho, q]))
theorem own_fresh (h : w.ownsRow b e z v n xs) {k : Nat} (hk : w.heap.size ≤ k) : v.ownBlock ≠ some k :=
  fun q => by have := (h.lt k q).2; omega
theorem owns_cell (h : w.ownsRow b e z v n xs) (hn : 0 < n) :
    ∃ g c, v = .slice (some ⟨g, 0, none⟩) n c ∧ b ≤ g ∧ g < w.heap.size ∧ n ≤ c ∧ ∀ j u, xs[j]? = some u → w.cell? ⟨g, j, none⟩ = some u := by
  rcases h.2 with ⟨_, rfl⟩ | ⟨g, cap, cur, rfl, hb, hh, hc, _⟩
  · omega
  · refine ⟨g, cap, rfl, hb, lt_of_some hh, hc, fun j u hu => ?_⟩
    have := h.cells (g := g) rfl j u hu
    rwa [add_at, Nat.zero_add] at this
/-- two rows of different element types never share a block -/
theorem own_own_ne (h : w.ownsRow b e z v n xs) (h' : w.ownsRow b' e' z' v' n' xs') (hne : e ≠ e') :
    ∀ k, v.ownBlock = some k → v'.ownBlock ≠ some k := by
  intro k hk
  rcases h.2 with ⟨rfl, _⟩ | ⟨g, cap, cur, rfl, _, hh, _⟩
  · simp [Value.ownBlock] at hk
  · have : g = k := by simpa [Value.ownBlock] using hk
    subst this
    exact own_blk_ne h' hh (fun e => hne e.symm)
theorem owns_keep {Pr : Nat → Prop} (h : w.ownsRow b e z v n xs) (hk : Keep Pr w w') (hp : ∀ k, v.ownBlock = some k → Pr k) : w'.ownsRow b e z v n xs := by
  obtain ⟨h1, h2⟩ := h
  refine ⟨h1, ?_⟩
  rcases h2 with h2 | ⟨g, cap, cur, rfl, a, c, d⟩
  · exact .inl h2
  · have hg : Pr g := hp g (by simp [Value.ownBlock])
    exact .inr ⟨g, cap, cur, rfl, a, (hk.block g hg).trans c, d⟩
theorem owns_len (h : w.ownsRow b e z v n xs) : xs.length = n * z := h.1
end

/-! a slice that reads as cells; nil and empty ones let in -/
def InC (w : World) (A : Option Addr) (xs : List Value) : Prop :=
  xs = [] ∨ ∃ (b off : Nat), A = some ⟨b, off, none⟩ ∧ b < w.heap.size ∧ ∀ (i : Nat) (u : Value), xs[i]? = some u → w.cell? ⟨b, off + i, none⟩ = some u
section
variable {w w' : World} {A : Option Addr} {xs : List Value}
theorem InC.nil (w : World) (A : Option Addr) : InC w A [] := .inl rfl
theorem InC.keep {Pr : Nat → Prop} (h : InC w A xs) (hk : Keep Pr w w') (hp : ∀ b, b < w.heap.size → Pr b) : InC w' A xs := by
  rcases h with h | ⟨b, off, rfl, hb, hc⟩
  · exact .inl h
  · exact .inr ⟨b, off, rfl, Nat.lt_of_lt_of_le hb hk.size, fun k t ht => (hk.cell (hp b hb) _).trans (hc k t ht)⟩
theorem InC.below (h : InC w A xs) (hb : Below w.heap.size w w') : InC w' A xs :=
  h.keep (Pr := (· < w.heap.size)) ⟨hb.os, hb.tape, hb.output, hb.size, hb.block⟩ (fun _ q => q)
theorem InC.alloc (h : InC w A xs) (o : Obj) : InC (w.alloc o) A xs := h.below ((Below.refl _ _).alloc (Nat.le_refl _) o)
theorem InC.drewN (h : InC w A xs) (n : Nat) : InC (w.drewN n) A xs := h
theorem InC.drew (h : InC w A xs) : InC w.drew A xs := h
theorem InC.own {b : Nat} {e : TypeId} {z n c : Nat} (h : w.ownsRow b e z (.slice A n c) n xs) : InC w A xs := by
  by_cases h0 : n = 0
  · subst h0
    exact .inl (List.eq_nil_of_length_eq_zero (by simpa using h.1))
  · obtain ⟨g, c', e, _, hlt, _, hcell⟩ := owns_cell h (by omega)
    injection e with e1 e2 e3
    subst e1
    exact .inr ⟨g, 0, rfl, hlt, fun k t ht => by rw [Nat.zero_add]; exact hcell k t ht⟩
/-- the slice from element k on, as the model says its address -/
theorem InC.cut {cap k z : Nat} (h : InC w A xs) (hk : cap = k → xs.drop (k * z) = []) : InC w (if cap = k then A else A.map (·.add (k * z))) (xs.drop (k * z)) := by
  by_cases hc : cap = k
  · exact .inl (hk hc)
  · rw [if_neg hc]
    rcases h with h | ⟨b, off, rfl, hb, hc⟩
    · exact .inl (by rw [h]; simp)
    · refine .inr ⟨b, off + k * z, by simp [add_at], hb, fun i u hu => ?_⟩
      rw [List.getElem?_drop] at hu
      rw [Nat.add_assoc]
      exact hc _ u hu
theorem InC.take (h : InC w A xs) (k : Nat) : InC w A (xs.take k) := by
  rcases h with h | ⟨b, off, rfl, hb, hc⟩
  · exact .inl (by rw [h]; simp)
  · exact .inr ⟨b, off, rfl, hb, fun i u hu => hc i u (by rw [List.getElem?_take] at hu; split at hu <;> simp_all)⟩
end
/-- a list of elements of z cells each -/
theorem flat_at {α : Type} {f : α → List Value} {z : Nat} (hf : ∀ t, (f t).length = z) (ts : List α) : ∀ (k : Nat) (t : α), ts[k]? = some t → ∀ j u, (f t)[j]? = some u → (ts.flatMap f)[k * z + j]? = some u := by
  induction ts with
  | nil => intro k t h; simp at h
  | cons a r ih =>
    intro k t h j u hu
    have e : (a :: r).flatMap f = f a ++ r.flatMap f := rfl
    rw [e]
    cases k with
    | zero =>
      simp at h
      subst h
      obtain ⟨h1, _⟩ := List.getElem?_eq_some_iff.1 hu
      rw [Nat.zero_mul, Nat.zero_add, List.getElem?_append_left h1]
      exact hu
    | succ k =>
      have e2 : (k + 1) * z + j = z + (k * z + j) := by rw [Nat.add_mul]; omega
      rw [e2, List.getElem?_append_right (by rw [hf]; omega), hf, Nat.add_sub_cancel_left]
      exact ih k t (by simpa using h) j u hu
theorem flat_len {α : Type} {f : α → List Value} {z : Nat} (hf : ∀ t, (f t).length = z) (ts : List α) : (ts.flatMap f).length = ts.length * z := by
  induction ts with
  | nil => simp
  | cons a r ih => rw [List.flatMap_cons, List.length_append, hf, ih, List.length_cons, Nat.add_mul]; omega
theorem flat_drop {α : Type} {f : α → List Value} {z : Nat} (hf : ∀ t, (f t).length = z) (ts : List α) : ∀ k, (ts.drop k).flatMap f = (ts.flatMap f).drop (k * z) := by
  induction ts with
  | nil => intro k; simp
  | cons a r ih =>
    intro k
    cases k with
    | zero => simp
    | succ k =>
      have e2 : (k + 1) * z = z + k * z := by rw [Nat.add_mul]; omega
      rw [List.drop_succ_cons, ih, List.flatMap_cons, e2, ← List.drop_drop, List.drop_left' (hf a)]
theorem flat_take {α : Type} {f : α → List Value} {z : Nat} (hf : ∀ t, (f t).length = z) (ts : List α) : ∀ k, (ts.take k).flatMap f = (ts.flatMap f).take (k * z) := by
  induction ts with
  | nil => intro k; simp
  | cons a r ih =>
    intro k
    cases k with
    | zero => simp
    | succ k =>
      have e2 : (k + 1) * z = z + k * z := by rw [Nat.add_mul]; omega
      rw [List.take_succ_cons, List.flatMap_cons, ih, List.flatMap_cons, e2, List.take_append, hf, show z + k * z - z = k * z by omega, List.take_of_length_le (show (f a).length ≤ z + k * z by rw [hf]; omega)]
/-- the cells of element k -/
theorem InC.elem {α : Type} {f : α → List Value} {z : Nat} {w : World} {A : Option Addr} {ts : List α} (h : InC w A (ts.flatMap f)) (hf : ∀ t, (f t).length = z) {k : Nat} {t : α} (hk : ts[k]? = some t) (hz : 0 < z) :
    ∃ b off, A = some ⟨b, off, none⟩ ∧ b < w.heap.size ∧ ∀ j u, (f t)[j]? = some u → w.cell? ⟨b, off + k * z + j, none⟩ = some u := by
  rcases h with h | ⟨b, off, rfl, hb, hc⟩
  · have h1 := flat_len hf ts
    rw [h] at h1
    have hlt : k < ts.length := (List.getElem?_eq_some_iff.1 hk).1
    have : 0 < ts.length * z := Nat.mul_pos (by omega) hz
    simp at h1
    omega
  · refine ⟨b, off, rfl, hb, fun j u hu => ?_⟩
    rw [Nat.add_assoc]
    exact hc _ u (flat_at hf ts k t hk j u hu)

end Go.Proofs.Ytcdapnhcgbkikaa
