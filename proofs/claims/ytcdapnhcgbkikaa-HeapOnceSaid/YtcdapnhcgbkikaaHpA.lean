/- What a heap is in memory, on both sides, and how its links are told. No conditions. -/
import Derived.Test.YtcdapnhcgbkikaaApp
namespace Go.Proofs.Ytcdapnhcgbkikaa
open Go.RowKit

/-- kind, number, references -/
abbrev Cel := Int × Int × List Int
/-- a cell as it lies in memory: the slice of its references, and what is kept beside it -/
structure PC where
  kind : Int
  num : Int
  refs : List Int
  v : Value
  ahead : Int
def PC.cel (x : PC) : Cel := (x.kind, x.num, x.refs)
def cellsP (x : PC) : List Value := [.int .i64 x.kind, .int .i64 x.num, x.v, .int .i64 x.ahead]
def cellsR (x : PC) : List Value := [.int .i64 x.kind, .int .i64 x.num, x.v]
theorem cellsP_len (x : PC) : (cellsP x).length = 4 := rfl
theorem cellsR_len (x : PC) : (cellsR x).length = 3 := rfl
def intV (l : List Int) : List Value := l.map (Value.int .i64)
theorem intV_len (l : List Int) : (intV l).length = l.length := List.length_map ..

/-- blocks of the heap: S -/
structure HM (f : PC → List Value) (z : Nat) (tb te : TypeId) (w : World) (S : Nat → Prop) (g : Nat) (most : Int) (cs : List PC) (A : Option Addr) (n c : Nat) : Prop where
  blk : Blk w g tb #[.int .i64 most, .slice A n c]
  row : w.ownsRow 0 te z (.slice A n c) n (cs.flatMap f)
  refs : ∀ (i : Nat) (x : PC), cs[i]? = some x → w.ownsRow 0 3 1 x.v x.refs.length (intV x.refs)
  apart : ∀ (i j : Nat) (x y : PC) (b : Nat), cs[i]? = some x → cs[j]? = some y → x.v.ownBlock = some b → y.v.ownBlock = some b → i = j
  box : S g
  rowS : ∀ b, (Value.slice A n c).ownBlock = some b → S b
  refS : ∀ (i : Nat) (x : PC) (b : Nat), cs[i]? = some x → x.v.ownBlock = some b → S b
  lt : ∀ b, S b → b < w.heap.size
/-- blocks of the heap and those made since -/
def Sx (S : Nat → Prop) (w w' : World) (k : Nat) : Prop := S k ∨ (w.heap.size ≤ k ∧ k < w'.heap.size)
/-- blocks that are not the heap's -/
def Out (S : Nat → Prop) (w : World) (k : Nat) : Prop := k < w.heap.size ∧ ¬ S k
section
variable {f : PC → List Value} {z : Nat} {tb te : TypeId} {w w' w'' : World} {S S' : Nat → Prop} {g : Nat} {most : Int} {cs : List PC} {A : Option Addr} {n c : Nat}
theorem HM.len (h : HM f z tb te w S g most cs A n c) (hf : ∀ t, (f t).length = z) (hz : 0 < z) : n = cs.length := by
  have h1 := h.row.1
  rw [flat_len hf] at h1
  exact (Nat.eq_of_mul_eq_mul_right hz h1).symm
theorem HM.keep (h : HM f z tb te w S g most cs A n c) (hk : Keep S w w') : HM f z tb te w' S g most cs A n c :=
  ⟨h.blk.keep hk h.box, owns_keep h.row hk h.rowS, fun i x hx => owns_keep (h.refs i x hx) hk (fun b hb => h.refS i x b hx hb), h.apart, h.box, h.rowS, h.refS, fun b hb => Nat.lt_of_lt_of_le (h.lt b hb) hk.size⟩
theorem HM.grow (h : HM f z tb te w S g most cs A n c) (h1 : ∀ k, S k → S' k) (h2 : ∀ k, S' k → k < w.heap.size) : HM f z tb te w S' g most cs A n c :=
  ⟨h.blk, h.row, h.refs, h.apart, h1 _ h.box, fun b hb => h1 _ (h.rowS b hb), fun i x b hx hb => h1 _ (h.refS i x b hx hb), h2⟩
theorem HM.below (h : HM f z tb te w S g most cs A n c) (hb : Below w.heap.size w w') : HM f z tb te w' S g most cs A n c := h.keep (Keep.below hb h.lt)
theorem Sx.lt (h : ∀ k, S k → k < w.heap.size) (hs : w.heap.size ≤ w'.heap.size) (k : Nat) (hk : Sx S w w' k) : k < w'.heap.size := by
  rcases hk with q | q
  · exact Nat.lt_of_lt_of_le (h k q) hs
  · exact q.2
theorem Out.step (hk : Keep (Out S w) w w') {k : Nat} (h : Out S w k) : Out (Sx S w w') w' k :=
  ⟨Nat.lt_of_lt_of_le h.1 hk.size, fun q => by rcases q with q | q; exact h.2 q; have := h.1; omega⟩
theorem Out.same (hk : Keep (Out S w) w w') {k : Nat} (h : Out S w k) : Out S w' k := ⟨Nat.lt_of_lt_of_le h.1 hk.size, h.2⟩
theorem keep_trans (h : Keep (Out S w) w w') (k : Keep (Out S w') w' w'') : Keep (Out S w) w w'' := h.trans (k.mono fun _ q => q.same h)
theorem keep_transX (h : Keep (Out S w) w w') (k : Keep (Out (Sx S w w') w') w' w'') : Keep (Out S w) w w'' := h.trans (k.mono fun _ q => q.step h)
theorem keep_below (hb : Below w.heap.size w w') : Keep (Out S w) w w' := Keep.below hb fun _ q => q.1
/-- the heap's box, told by its cells -/
theorem HM.box0 (h : HM f z tb te w S g most cs A n c) : w.cell? ⟨g, 0, none⟩ = some (.int .i64 most) := h.blk.cell 0
theorem HM.box1 (h : HM f z tb te w S g most cs A n c) : w.cell? ⟨g, 1, none⟩ = some (.slice A n c) := h.blk.cell 1
theorem HM.frz1 (h : HM f z tb te w S g most cs A n c) : w.frozen? ⟨g, 1, none⟩ = false := h.blk.frozen 1
theorem HM.gS (h : HM f z tb te w S g most cs A n c) : g < w.heap.size := h.blk.lt
end

/-! the program's side -/
abbrev HP (w : World) (S : Nat → Prop) (g : Nat) (most : Int) (cs : List PC) (A : Option Addr) (n c : Nat) : Prop := HM cellsP 4 66 71 w S g most cs A n c
abbrev HR (w : World) (S : Nat → Prop) (g : Nat) (most : Int) (cs : List PC) (A : Option Addr) (n c : Nat) : Prop := HM cellsR 3 77 43 w S g most cs A n c
section
variable {w w' : World} {S S' : Nat → Prop} {g : Nat} {most : Int} {cs : List PC} {A : Option Addr} {n c : Nat}
theorem HP.at_ (h : HP w S g most cs A n c) {i : Nat} {x : PC} (hi : cs[i]? = some x) :
    ∃ b, A = some ⟨b, 0, none⟩ ∧ b < w.heap.size ∧ n ≤ c ∧ i < n ∧ (w.cell? ⟨b, i * 4, none⟩ = some (.int .i64 x.kind) ∧ w.cell? ⟨b, i * 4 + 1, none⟩ = some (.int .i64 x.num) ∧ w.cell? ⟨b, i * 4 + 2, none⟩ = some x.v ∧ w.cell? ⟨b, i * 4 + 3, none⟩ = some (.int .i64 x.ahead)) ∧ ∀ o, w.frozen? ⟨b, o, none⟩ = false := by
  have hl := h.len cellsP_len (by decide)
  have hin : i < n := by rw [hl]; exact (List.getElem?_eq_some_iff.1 hi).1
  obtain ⟨b, c', e, _, hlt, hnc, hcell⟩ := owns_cell h.row (by omega)
  injection e with e1 e2 e3
  subst e1 e3
  have q := flat_at cellsP_len cs i x hi
  refine ⟨b, rfl, hlt, hnc, hin, ⟨?_, hcell _ _ (q 1 _ rfl), hcell _ _ (q 2 _ rfl), hcell _ _ (q 3 _ rfl)⟩, fun o => h.row.frozenAt o⟩
  have := hcell _ _ (q 0 _ rfl)
  rwa [Nat.add_zero] at this
theorem HR.at_ (h : HR w S g most cs A n c) {i : Nat} {x : PC} (hi : cs[i]? = some x) :
    ∃ b, A = some ⟨b, 0, none⟩ ∧ b < w.heap.size ∧ n ≤ c ∧ i < n ∧ (w.cell? ⟨b, i * 3, none⟩ = some (.int .i64 x.kind) ∧ w.cell? ⟨b, i * 3 + 1, none⟩ = some (.int .i64 x.num) ∧ w.cell? ⟨b, i * 3 + 2, none⟩ = some x.v) ∧ ∀ o, w.frozen? ⟨b, o, none⟩ = false := by
  have hl := h.len cellsR_len (by decide)
  have hin : i < n := by rw [hl]; exact (List.getElem?_eq_some_iff.1 hi).1
  obtain ⟨b, c', e, _, hlt, hnc, hcell⟩ := owns_cell h.row (by omega)
  injection e with e1 e2 e3
  subst e1 e3
  have q := flat_at cellsR_len cs i x hi
  refine ⟨b, rfl, hlt, hnc, hin, ⟨?_, hcell _ _ (q 1 _ rfl), hcell _ _ (q 2 _ rfl)⟩, fun o => h.row.frozenAt o⟩
  have := hcell _ _ (q 0 _ rfl)
  rwa [Nat.add_zero] at this
end
theorem set_flat {α : Type} {f : α → List Value} {z : Nat} (hf : ∀ t, (f t).length = z) (y : α) : ∀ (ts : List α) (i : Nat), i < ts.length → (ts.set i y).flatMap f = (ts.flatMap f).take (i * z) ++ f y ++ (ts.flatMap f).drop (i * z + z)
  | [], _, h => by simp at h
  | a :: r, 0, _ => by
    rw [List.set_cons_zero, List.flatMap_cons, List.flatMap_cons, Nat.zero_mul, List.take_zero, List.nil_append, Nat.zero_add, List.drop_left' (hf a)]
  | a :: r, i + 1, h => by
    rw [List.set_cons_succ, List.flatMap_cons, List.flatMap_cons, set_flat hf y r i (by simpa using h), show (i + 1) * z = z + i * z by rw [Nat.add_mul]; omega, show z + i * z + z = z + (i * z + z) by omega]
    rw [List.take_append, List.drop_append, hf, List.take_of_length_le (show (f a).length ≤ z + i * z by rw [hf]; omega), List.drop_eq_nil_of_le (show (f a).length ≤ z + (i * z + z) by rw [hf]; omega)]
    simp [show z + i * z - z = i * z by omega, show z + (i * z + z) - z = i * z + z by omega, List.append_assoc]
theorem set_run (xs : List Value) : ∀ (us : List Value) (k : Nat), k + us.length ≤ xs.length → us.zipIdx.foldl (fun l u => l.set (k + u.2) u.1) xs = xs.take k ++ us ++ xs.drop (k + us.length) := by
  suffices H : ∀ (us : List Value) (k q : Nat) (xs : List Value), k + q + us.length ≤ xs.length → (us.zipIdx q).foldl (fun l u => l.set (k + u.2) u.1) xs = xs.take (k + q) ++ us ++ xs.drop (k + q + us.length) by
    intro us k h
    have := H us k 0 xs (by simpa using h)
    simpa using this
  intro us
  induction us with
  | nil => intro k q xs h; simp
  | cons u r ih =>
    intro k q xs h
    rw [List.zipIdx_cons, List.foldl_cons, show k + q + (u :: r).length = k + (q + 1) + r.length by simp; omega]
    rw [ih k (q + 1) (xs.set (k + q) u) (by simp at h ⊢; omega)]
    have hlt : k + q < xs.length := by simp at h; omega
    have e1 : (xs.set (k + q) u).take (k + (q + 1)) = xs.take (k + q) ++ [u] := by
      rw [show k + (q + 1) = (k + q) + 1 by omega, List.take_add_one, List.take_set_of_le (Nat.le_refl _), List.getElem?_set_self hlt]
      rfl
    have e2 : (xs.set (k + q) u).drop (k + (q + 1) + r.length) = xs.drop (k + (q + 1) + r.length) := by
      rw [List.drop_set_of_lt (by omega)]
    rw [e1, e2]
    simp
section
variable {w w' : World} {S S' : Nat → Prop} {g : Nat} {most : Int} {cs : List PC} {A : Option Addr} {n c : Nat}
/-- one cell is another one -/
theorem HM.set_ {f : PC → List Value} {z : Nat} {tb te : TypeId} (h : HM f z tb te w S g most cs A n c) (h1 : te ≠ 3) (h2 : te ≠ tb) {i : Nat} {y : PC} (hk : Keep (fun k => k < w.heap.size ∧ some k ≠ (Value.slice A n c).ownBlock) w w')
    (hrow : w'.ownsRow 0 te z (.slice A n c) n ((cs.set i y).flatMap f)) (hy : w'.ownsRow 0 3 1 y.v y.refs.length (intV y.refs))
    (hy2 : ∀ b, y.v.ownBlock = some b → S' b ∧ ∀ (j : Nat) (x : PC), j ≠ i → cs[j]? = some x → x.v.ownBlock ≠ some b) (hS : ∀ k, S k → S' k) (hS' : ∀ k, S' k → k < w'.heap.size) : HM f z tb te w' S' g most (cs.set i y) A n c := by
  have hs : ∀ (j : Nat) (x : PC), (cs.set i y)[j]? = some x → (j ≠ i ∧ cs[j]? = some x) ∨ (j = i ∧ x = y) := by
    intro j x hx
    by_cases hj : i = j
    · subst hj
      rw [List.getElem?_set_self'] at hx
      cases hc : cs[i]? with
      | none => rw [hc] at hx; simp at hx
      | some q => rw [hc] at hx; simp at hx; exact .inr ⟨rfl, hx.symm⟩
    · rw [List.getElem?_set_ne hj] at hx
      exact .inl ⟨fun q => hj q.symm, hx⟩
  refine ⟨h.blk.keep hk ⟨h.gS, fun e => own_blk_ne h.row h.blk h2 e.symm⟩, hrow, fun j x hx => ?_, fun j k x u b hx hu hb hb2 => ?_, hS _ h.box, fun b hb => hS _ (h.rowS b hb), fun j x b hx hb => ?_, hS'⟩
  · rcases hs j x hx with ⟨q1, q2⟩ | ⟨q1, q2⟩
    · refine owns_keep (h.refs j x q2) hk fun b hb => ⟨h.lt b (h.refS j x b q2 hb), fun e => ?_⟩
      exact own_own_ne (h.refs j x q2) h.row (fun e => h1 e.symm) b hb e.symm
    · subst q2; exact hy
  · rcases hs j x hx with ⟨q1, q2⟩ | ⟨q1, q2⟩
    · rcases hs k u hu with ⟨r1, r2⟩ | ⟨r1, r2⟩
      · exact h.apart j k x u b q2 r2 hb hb2
      · subst r2
        exact absurd hb ((hy2 b hb2).2 j x q1 q2)
    · rcases hs k u hu with ⟨r1, r2⟩ | ⟨r1, r2⟩
      · subst q2
        exact absurd hb2 ((hy2 b hb).2 k u r1 r2)
      · rw [q1, r1]
  · rcases hs j x hx with ⟨q1, q2⟩ | ⟨q1, q2⟩
    · exact hS _ (h.refS j x b q2 hb)
    · subst q2; exact (hy2 b hb).1
/-- the cells of one element are stored -/
theorem row_set4 {te : TypeId} (h : w.ownsRow 0 te 4 (.slice A n c) n (cs.flatMap cellsP)) {i : Nat} {y : PC} {b : Nat} (hA : A = some ⟨b, 0, none⟩) (hi : i < cs.length) :
    ((((w.setCell ⟨b, i * 4, none⟩ (.int .i64 y.kind)).setCell ⟨b, i * 4 + 1, none⟩ (.int .i64 y.num)).setCell ⟨b, i * 4 + 2, none⟩ y.v).setCell ⟨b, i * 4 + 3, none⟩ (.int .i64 y.ahead)).ownsRow 0 te 4 (.slice A n c) n ((cs.set i y).flatMap cellsP) := by
  subst hA
  have h1 := ((((h.stored (i * 4) (.int .i64 y.kind)).1.stored (i * 4 + 1) (.int .i64 y.num)).1.stored (i * 4 + 2) y.v).1.stored (i * 4 + 3) (.int .i64 y.ahead)).1
  have e := set_run (cs.flatMap cellsP) (cellsP y) (i * 4) (by rw [flat_len cellsP_len, cellsP_len]; omega)
  rw [cellsP_len] at e
  rw [set_flat cellsP_len y cs i hi, ← e]
  exact h1
theorem row_set3 {te : TypeId} (h : w.ownsRow 0 te 3 (.slice A n c) n (cs.flatMap cellsR)) {i : Nat} {y : PC} {b : Nat} (hA : A = some ⟨b, 0, none⟩) (hi : i < cs.length) :
    (((w.setCell ⟨b, i * 3, none⟩ (.int .i64 y.kind)).setCell ⟨b, i * 3 + 1, none⟩ (.int .i64 y.num)).setCell ⟨b, i * 3 + 2, none⟩ y.v).ownsRow 0 te 3 (.slice A n c) n ((cs.set i y).flatMap cellsR) := by
  subst hA
  have h1 := (((h.stored (i * 3) (.int .i64 y.kind)).1.stored (i * 3 + 1) (.int .i64 y.num)).1.stored (i * 3 + 2) y.v).1
  have e := set_run (cs.flatMap cellsR) (cellsR y) (i * 3) (by rw [flat_len cellsR_len, cellsR_len]; omega)
  rw [cellsR_len] at e
  rw [set_flat cellsR_len y cs i hi, ← e]
  exact h1
end
end Go.Proofs.Ytcdapnhcgbkikaa
