/- A growing list of patterns that the law makes: rows of their own behind a row of slices. Conditions: patterns of at most 8192 nodes. -/
import Derived.Test.YtdifpemohdnolaaGreatPtZ
namespace Go.Proofs.YtdifpemohdnolaaGreat
open Go.RowKit VM

structure ORows (w : World) (B : Nat) (rs : List Row) (ps : List (List Cd)) : Prop where
  len : rs.length = ps.length
  at_ : ∀ (i : Nat) (r : Row) (p : List Cd), rs[i]? = some r → ps[i]? = some p → r.2.1 = p.length ∧ r.2.1 ≤ 8192 ∧ w.ownsRow B 27 3 (rowV r) r.2.1 (p.flatMap cdCells)
theorem ORows.rows {w : World} {B : Nat} {rs : List Row} {ps : List (List Cd)} (h : ORows w B rs ps) : Rows w rs ps :=
  ⟨h.len, fun i r p h1 h2 => ⟨(h.at_ i r p h1 h2).1, (h.at_ i r p h1 h2).2.1, InC.own (h.at_ i r p h1 h2).2.2⟩⟩
theorem ORows.below {w w' : World} {B : Nat} {rs : List Row} {ps : List (List Cd)} (h : ORows w B rs ps) (hb : Below w.heap.size w w') : ORows w' B rs ps :=
  ⟨h.len, fun i r p h1 h2 => ⟨(h.at_ i r p h1 h2).1, (h.at_ i r p h1 h2).2.1, owns_below (h.at_ i r p h1 h2).2.2 hb⟩⟩
theorem ORows.alloc {w : World} {B : Nat} {rs : List Row} {ps : List (List Cd)} (h : ORows w B rs ps) (o : Obj) : ORows (w.alloc o) B rs ps := h.below ((Below.refl _ _).alloc (Nat.le_refl _) o)
theorem ORows.other {w w' : World} {B B' z n : Nat} {e : TypeId} {v : Value} {xs : List Value} {rs : List Row} {ps : List (List Cd)} (h : ORows w B rs ps) (hv : w.ownsRow B' e z v n xs) (hne : 27 ≠ e) (hg : w.grownBy w' v.ownBlock) : ORows w' B rs ps :=
  ⟨h.len, fun i r p h1 h2 => ⟨(h.at_ i r p h1 h2).1, (h.at_ i r p h1 h2).2.1, owns_other (h.at_ i r p h1 h2).2.2 hg (own_own_ne (h.at_ i r p h1 h2).2.2 hv hne)⟩⟩
theorem ORows.nil (w : World) (B : Nat) : ORows w B [] [] := ⟨rfl, fun i r p h => by simp at h⟩
theorem ORows.snoc {w : World} {B : Nat} {rs : List Row} {ps : List (List Cd)} (h : ORows w B rs ps) {r : Row} {p : List Cd} (h1 : r.2.1 = p.length) (h2 : r.2.1 ≤ 8192) (h3 : w.ownsRow B 27 3 (rowV r) r.2.1 (p.flatMap cdCells)) : ORows w B (rs ++ [r]) (ps ++ [p]) := by
  refine ⟨by rw [List.length_append, List.length_append, h.len]; rfl, fun i r' p' a b => ?_⟩
  by_cases hi : i < rs.length
  · rw [List.getElem?_append_left hi] at a
    rw [List.getElem?_append_left (by rw [← h.len]; exact hi)] at b
    exact h.at_ i r' p' a b
  · rw [List.getElem?_append_right (by omega)] at a
    rw [List.getElem?_append_right (by rw [← h.len]; omega), ← h.len] at b
    obtain ⟨j, hj⟩ : ∃ j, i - rs.length = j := ⟨_, rfl⟩
    rw [hj] at a b
    match j with
    | 0 => cases a; cases b; exact ⟨h1, h2, h3⟩
    | j + 1 => simp at a
/-- the list of patterns at world wr: its rows, its own row, what stays -/
structure PInv (w wr : World) (v : Value) (rs : List Row) (ps : List (List Cd)) : Prop where
  rows : ORows wr w.heap.size rs ps
  own : wr.ownsRow w.heap.size 22 1 v ps.length (rs.map rowV)
  below : Below w.heap.size w wr
theorem PInv.start (w : World) : PInv w w (.slice none 0 0) [] [] := ⟨ORows.nil w _, World.ownsRow_nil _ _ _ _, Below.refl _ _⟩
theorem PInv.to {w wr wr' : World} {v : Value} {rs : List Row} {ps : List (List Cd)} (h : PInv w wr v rs ps) (hb : Below wr.heap.size wr wr') : PInv w wr' v rs ps :=
  ⟨h.rows.below hb, owns_below h.own hb, h.below.trans (hb.mono h.below.size)⟩
theorem PInv.other {w wr wr' : World} {e : TypeId} {z n : Nat} {v u : Value} {xs : List Value} {rs : List Row} {ps : List (List Cd)} (h : PInv w wr v rs ps) (hv : wr.ownsRow w.heap.size e z u n xs) (h1 : 27 ≠ e) (h2 : 22 ≠ e) (hg : wr.grownBy wr' u.ownBlock) : PInv w wr' v rs ps :=
  ⟨h.rows.other hv h1 hg, owns_other h.own hg (own_own_ne h.own hv h2), below_app h.below hv hg⟩
theorem PInv.step {w wr w1 w5 : World} {v v5 : Value} {A1 : Option Addr} {m1 d1 : Nat} {q : List Cd} {o : Obj} {rs : List Row} {ps : List (List Cd)} (h : PInv w wr v rs ps) (hm : m1 = q.length) (hm2 : m1 ≤ 8192)
    (hN : w1.ownsRow wr.heap.size 27 3 (.slice A1 m1 d1) m1 (q.flatMap cdCells)) (hb1 : Below wr.heap.size wr w1)
    (hown5 : w5.ownsRow w.heap.size 22 1 v5 (ps.length + 1) (rs.map rowV ++ [.slice A1 m1 d1])) (hg5 : (w1.alloc o).grownBy w5 v.ownBlock) : PInv w w5 v5 (rs ++ [(A1, m1, d1)]) (ps ++ [q]) := by
  have h1 := (h.to hb1).to ((Below.refl _ _).alloc (Nat.le_refl _) o)
  have hN2 := owns_below hN ((Below.refl _ _).alloc (Nat.le_refl _) o)
  refine ⟨?_, ?_, below_app h1.below h1.own hg5⟩
  · refine (h1.rows.other h1.own (by decide) hg5).snoc (r := (A1, m1, d1)) hm hm2 ?_
    exact owns_base (owns_other hN2 hg5 (own_own_ne hN2 h1.own (by decide))) h.below.size
  · rw [List.length_append, List.map_append]
    exact hown5
theorem row_info : (Tryz.prog.info? 22).map (fun i => (i.zero, i.size, i.bytes)) = some (some (.slice none 0 0), 1, 24) := by kernel_rfl
def intL (k : Nat) : List ByteArray := (List.range k).map fun (j : Nat) => intB (j : Int)
theorem intL_succ (k : Nat) : intL (k + 1) = intL k ++ [intB (k : Int)] := by unfold intL; rw [List.range_succ, List.map_append]; rfl
theorem intL_len (k : Nat) : (intL k).length = k := by unfold intL; simp
theorem intL_val (k : Nat) : ∀ s ∈ intL k, valB 31 s = true := by
  intro s hs
  obtain ⟨j, _, rfl⟩ := List.mem_map.1 hs
  exact int_val31 _
theorem intL_size (k : Nat) : ∀ s ∈ intL k, s.size ≤ 9 := by
  intro s hs
  obtain ⟨j, _, rfl⟩ := List.mem_map.1 hs
  rw [intB_size]
  exact Nat.le_refl _
theorem intL_tot {k : Nat} (h : k ≤ 1000) : 3 + totB (intL k) ≤ 131072 := by
  have := totB_bound (intL_size k)
  rw [intL_len] at this
  omega
theorem rep_len (k : Nat) : (List.replicate k [pv]).length = k := List.length_replicate ..
theorem rep_succ (k : Nat) : List.replicate (k + 1) [pv] = List.replicate k [pv] ++ [[pv]] := by rw [List.replicate_succ']
theorem eqL_me (a : List ByteArray) : eqL a a = true := by
  unfold eqL
  first
    | rfl
    | simp
theorem eqS_me (a : List ByteArray) (A B : Option Addr) (n m ca cb : Nat) (w : World) (hn : n = a.length) (hm : m = a.length) (hn1 : n ≤ 9223372036854775807) (hm1 : m ≤ 9223372036854775807) (hr : InC w A (a.map Value.string)) (hr2 : InC w B (a.map Value.string)) :
    Calls Tryz.prog 18 #[.slice A n ca, .slice B m cb] w fun e w' => e = .returned (.bool true) ∧ Below w.heap.size w w' := by
  have := eqS_any a a A B n m ca cb w hn hm hn1 hm1 hr hr2
  rwa [eqL_me] at this

theorem one_row (A : Option Addr) (m d : Nat) : ∀ u ∈ [Value.slice A m d], u.oneCell' = true := by
  intro u hu
  simp at hu
  subst hu
  rfl

end Go.Proofs.YtdifpemohdnolaaGreat
