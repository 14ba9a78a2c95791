/- Patterns as trees: two forests side by side, one leaf, the irrefutable ones; a row that holds a tree, beside the choices. No conditions. -/
import Derived.Test.YtdifpemohdnolaaGreatPuF
import Derived.Test.YtdifpemohdnolaaGreatPuA
import Derived.Test.YtdifpemohdnolaaGreatVgC
namespace Go.Proofs.YtdifpemohdnolaaGreat
open Go.RowKit VM

theorem mt_node (o n : Int) (k r : F) (v : ByteArray) (vs : List ByteArray) : (F.node o n k r).mt (v :: vs) = match splitR (o, n, (k.cnt : Int)) v with
    | none => none
    | some l => match k.mt l with
      | none => none
      | some a => match r.mt vs with
        | none => none
        | some b => some ((if o = 30 then [v] else []) ++ a ++ b) := rfl
theorem F.mt_app : ∀ (f g : F) (xs bs : List ByteArray), xs.length = f.cnt → (f.app g).mt (xs ++ bs) = match f.mt xs with
    | none => none
    | some a => match g.mt bs with
      | none => none
      | some b => some (a ++ b)
  | .nil, g, xs, bs, h => by
    obtain rfl : xs = [] := List.eq_nil_of_length_eq_zero h
    show g.mt bs = match g.mt bs with | none => none | some b => some ([] ++ b)
    cases g.mt bs <;> rfl
  | .node o n k r, g, xs, bs, h => by
    cases xs with
    | nil => cases h
    | cons v vs =>
      have ih := r.mt_app g vs bs (by have : vs.length + 1 = r.cnt + 1 := h; omega)
      show (F.node o n k (r.app g)).mt (v :: (vs ++ bs)) = _
      rw [mt_node, mt_node]
      cases splitR (o, n, (k.cnt : Int)) v with
      | none => rfl
      | some l =>
        simp only
        cases k.mt l with
        | none => rfl
        | some a =>
          simp only
          rw [ih]
          cases r.mt vs with
          | none => rfl
          | some b =>
            simp only
            cases g.mt bs with
            | none => rfl
            | some c => simp
/-- a leaf -/
def leafF (o n : Int) : F := .node o n .nil .nil
theorem leaf_fl (o n : Int) : (leafF o n).fl = [(o, n, 0)] := rfl
theorem leaf_mt30 (v : ByteArray) : (leafF 30 0).mt [v] = some [v] := by
  unfold leafF F.mt
  simp only [show splitR (30, 0, (F.nil.cnt : Int)) v = some [] from rfl]
  rfl
theorem leaf_mt31 (v : ByteArray) : (leafF 31 0).mt [v] = some [] := by
  unfold leafF F.mt
  simp only [show splitR (31, 0, (F.nil.cnt : Int)) v = some [] from rfl]
  rfl
structure IrrF (m : Nat) (P : F) : Prop where
  one : ∃ o n k, P = .node o n k .nil
  ok : P.ok (m + 1) = true
  len : P.fl.length ≤ 1 + 2 * m
  irr : P.fl.any failL = false
  all_ : ∀ v, ∃ us, P.mt [v] = some us
theorem irr_start : IrrF 0 (leafF 30 0) := ⟨⟨_, _, _, rfl⟩, rfl, by decide, rfl, fun v => ⟨_, leaf_mt30 v⟩⟩
theorem one_cnt {P : F} (h : ∃ o n k, P = .node o n k .nil) : P.cnt = 1 := by obtain ⟨o, n, k, rfl⟩ := h; rfl
def bothF (P : F) (x : Int) : F := .node 40 0 (P.app (leafF x 0)) .nil
theorem both_mt {P : F} (h1 : P.cnt = 1) {x : Int} {v : ByteArray} {us a : List ByteArray} (h : P.mt [v] = some us) (hx : (leafF x 0).mt [v] = some a) : (bothF P x).mt [v] = some (us ++ a) := by
  have e : (P.app (leafF x 0)).mt [v, v] = some (us ++ a) := by
    rw [show [v, v] = [v] ++ [v] from rfl, F.mt_app P (leafF x 0) [v] [v] (by rw [h1]; rfl), h]
    simp only
    rw [hx]
  unfold bothF F.mt
  simp only [show splitR (40, 0, ((P.app (leafF x 0)).cnt : Int)) v = some [v, v] from rfl, e]
  simp [F.mt]
theorem irr_step {m : Nat} {P : F} (h : IrrF m P) {x : Int} (hx : x = 30 ∨ x = 31) : IrrF (m + 1) (bothF P x) := by
  have hc := one_cnt h.one
  have hl : (leafF x 0).fl = [(x, 0, 0)] := rfl
  have hok : (leafF x 0).ok (m + 1) = true := by rcases hx with rfl | rfl <;> rfl
  refine ⟨⟨_, _, _, rfl⟩, ?_, ?_, ?_, fun v => ?_⟩
  · unfold bothF F.ok
    rw [F.app_ok, show m + 1 + 1 - 1 = m + 1 from rfl, h.ok, hok, F.app_cnt, hc]
    rfl
  · have := h.len
    unfold bothF F.fl
    rw [F.app_fl, hl]
    simp [F.fl]
    omega
  · unfold bothF F.fl
    rw [F.app_fl, hl, List.any_cons, List.any_append, List.any_append, h.irr]
    rcases hx with rfl | rfl <;> rfl
  · obtain ⟨us, hu⟩ := h.all_ v
    rcases hx with rfl | rfl
    · exact ⟨_, both_mt hc hu (leaf_mt30 v)⟩
    · exact ⟨_, both_mt hc hu (leaf_mt31 v)⟩
/-- the pattern of tuples -/
structure TupF (m : Nat) (Q : F) : Prop where
  one : ∃ o n k, Q = .node o n k .nil
  ok : Q.ok (m + 2) = true
  len : Q.fl.length ≤ 1 + 8 * m
  irr : Q.fl.any failL = false
theorem tup_start : TupF 0 (leafF 30 0) := ⟨⟨_, _, _, rfl⟩, rfl, by decide, rfl⟩
def tupF (P Q : F) : F := .node 34 0 (P.app Q) .nil
theorem tup_step {m : Nat} {P Q : F} (hP : IrrF (m + 1) P) (hQ : TupF m Q) (hm : m ≤ 2) : TupF (m + 1) (tupF P Q) := by
  have h1 := one_cnt hP.one
  have h2 := one_cnt hQ.one
  refine ⟨⟨_, _, _, rfl⟩, ?_, ?_, ?_⟩
  · unfold tupF F.ok
    rw [F.app_ok, show m + 1 + 2 - 1 = m + 2 from rfl, hP.ok, hQ.ok, F.app_cnt, h1, h2]
    rfl
  · have := hP.len
    have := hQ.len
    unfold tupF F.fl
    rw [F.app_fl]
    simp [F.fl]
    omega
  · unfold tupF F.fl
    rw [F.app_fl, List.any_cons, List.any_append, List.any_append, hP.irr, hQ.irr]
    rfl
theorem ok64 {m : Nat} {P : F} (h : P.ok m = true) (hm : m ≤ 64) : P.ok 64 = true := F.ok_up P hm h
theorem irrB_of {P : F} (h1 : ∃ o n k, P = .node o n k .nil) (h2 : P.ok 64 = true) (h3 : P.fl.length ≤ 8192) (h4 : P.fl.any failL = false) : irrB P.fl = true := by
  obtain ⟨o, n, k, rfl⟩ := h1
  unfold irrB
  rw [isPat_t h2 h3, h4]
  rfl
theorem irr_match {m : Nat} {P : F} (h : IrrF m P) (hm : m ≤ 3) (v : ByteArray) : (matchR P.fl v).isSome = valB 32 v := by
  have hl := h.len
  obtain ⟨us, hu⟩ := h.all_ v
  have ho := ok64 h.ok (by omega)
  obtain ⟨o, n, k, rfl⟩ := h.one
  rw [match_t ho (by omega), hu]
  cases valB 32 v <;> rfl
theorem tuple_facts {ps : List ByteArray} (h : ValOK 3 (mkM 3 ps)) : kindM (mkM 3 ps) = 3 ∧ pt (mkM 3 ps) = ps := by
  have hne : mkM 3 ps ≠ ⟨#[]⟩ := by
    intro e
    rw [e] at h
    exact absurd h.1 (by decide)
  obtain ⟨h1, h2, _⟩ := made (k := 3) (by decide) hne
  refine ⟨?_, h2⟩
  have := kind_isK (s := mkM 3 ps) (k := 3) (by decide)
  rw [h1] at this
  simpa using this
theorem tup_match {m : Nat} {P : F} (h : IrrF m P) (hm : m ≤ 3) {v u : ByteArray} (hv : ValOK 2 v) (hu : ValOK 2 u) : ∃ us, matchR (tupF P (leafF 30 0)).fl (mkM 3 [v, u]) = some (us ++ [u]) := by
  have hl := h.len
  have h1 := one_cnt h.one
  have ht := ok_tuple (d := 2) (by decide) (by decide) hv hu
  obtain ⟨k1, k2⟩ := tuple_facts ht
  obtain ⟨us, hus⟩ := h.all_ v
  have hok : (tupF P (leafF 30 0)).ok 64 = true := by
    refine F.ok_up _ (d := m + 2) (by omega) ?_
    unfold tupF F.ok
    rw [F.app_ok, show m + 2 - 1 = m + 1 from rfl, h.ok, F.app_cnt, h1]
    rfl
  have hlen : (tupF P (leafF 30 0)).fl.length ≤ 8192 := by
    unfold tupF F.fl
    rw [F.app_fl, leaf_fl]
    simp [F.fl]
    omega
  refine ⟨us, ?_⟩
  unfold tupF at hok hlen ⊢
  rw [match_t hok hlen, if_pos (valB_le (by decide) ht.1)]
  have e : (P.app (leafF 30 0)).mt [v, u] = some (us ++ [u]) := by
    rw [show [v, u] = [v] ++ [u] from rfl, F.mt_app P (leafF 30 0) [v] [u] (by rw [h1]; rfl), hus]
    simp only
    rw [leaf_mt30]
  have hs : splitR (34, 0, ((P.app (leafF 30 0)).cnt : Int)) (mkM 3 [v, u]) = some [v, u] := by
    rw [F.app_cnt, h1]
    show exactR 3 2 (mkM 3 [v, u]) = _
    unfold exactR
    rw [k1, k2]
    rfl
  unfold F.mt
  simp only [hs, e]
  simp [F.mt]
/-! a row that holds a tree, beside the choices -/
structure PRow (w : World) (g : Nat) (v : Value) (P : F) : Prop where
  form : ∃ A d, v = .slice A P.fl.length d
  own : w.ownsRow (g + 1) 27 3 v P.fl.length (P.fl.flatMap cdCells)
theorem PRow.grown {w w' : World} {g : Nat} {v : Value} {P : F} (h : PRow w g v P) (hG : w.grownBy w' (some g)) : PRow w' g v P := ⟨h.form, owns_other h.own hG (row_g h.own (Nat.lt_succ_self g))⟩
theorem PRow.below {w w' : World} {g : Nat} {v : Value} {P : F} (h : PRow w g v P) (hb : Below w.heap.size w w') : PRow w' g v P := ⟨h.form, owns_below h.own hb⟩
theorem PRow.made {w w' : World} {g : Nat} {P : F} {A : Option Addr} {m d : Nat} (hg : g < w.heap.size) (hm : m = P.fl.length) (ho : w'.ownsRow w.heap.size 27 3 (.slice A m d) m (P.fl.flatMap cdCells)) : PRow w' g (.slice A m d) P := by
  subst hm
  exact ⟨⟨A, d, rfl⟩, owns_base ho hg⟩
theorem PRow.in_ {w : World} {g m d : Nat} {A : Option Addr} {P : F} (h : PRow w g (.slice A m d) P) : m = P.fl.length ∧ InC w A (P.fl.flatMap cdCells) := by
  obtain ⟨A', d', e⟩ := h.form
  cases e
  exact ⟨rfl, InC.own h.own⟩
theorem node_two (op : Int) (P Q : F) (hP : P.cnt = 1) (hQ : Q.cnt = 1) : nodeL op 0 [P.fl, Q.fl] = (F.node op 0 (P.app Q) .nil).fl := by
  show (op, 0, ((2 : Nat) : Int)) :: [P.fl, Q.fl].flatten = (op, 0, ((P.app Q).cnt : Int)) :: ((P.app Q).fl ++ [])
  rw [F.app_cnt, hP, hQ, F.app_fl]
  simp

end Go.Proofs.YtdifpemohdnolaaGreat
