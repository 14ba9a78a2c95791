/- A map of the call's own, its keys of the kind string: its entries in order, look-ups and stores. No conditions. -/
import Derived.Test.YtdifpemohdnolaaGreatB0
import Derived.MapKept
import Derived.Maps.OwnOps
namespace Go.Proofs.YtdifpemohdnolaaGreat
open Go.RowKit Go.MapKept

theorem bytes_beq (a b : ByteArray) : (a == b) = decide (a = b) := by
  rw [Bool.eq_iff_iff, decide_eq_true_eq]
  show (a.data == b.data) = true ↔ _
  rw [beq_iff_eq]
  exact ⟨fun h => ByteArray.ext h, fun h => by rw [h]⟩
/-- block g is a map with just these entries -/
def TMap (w : World) (g : Nat) (es : List (ByteArray × Value)) : Prop :=
  ∃ (xs : Array MapEntry) (c : Nat), w.heap[g]? = some (.map xs c) ∧ xs.toList.map (fun e => (e.key, e.val)) = es.map fun p => (Value.string p.1, p.2)
section
variable {P : Program} {w w' : World} {g : Nat} {es : List (ByteArray × Value)}
theorem TMap.made (w : World) : TMap (w.alloc (.map #[] 0)) w.heap.size [] := ⟨#[], 0, heap_alloc_new w _, rfl⟩
theorem TMap.lt (h : TMap w g es) : g < w.heap.size := by obtain ⟨xs, c, h1, _⟩ := h; exact lt_of_some h1
theorem TMap.kept {row : Option Nat} (h : TMap w g es) (hg : w.grownBy w' row) (hne : some g ≠ row) : TMap w' g es := by
  obtain ⟨xs, c, h1, h2⟩ := h
  exact ⟨xs, c, (hg.block g (lt_of_some h1) hne).trans h1, h2⟩
theorem TMap.keep {Pr : Nat → Prop} (h : TMap w g es) (hk : Keep Pr w w') (hp : Pr g) : TMap w' g es := by
  obtain ⟨xs, c, h1, h2⟩ := h
  exact ⟨xs, c, (hk.block g hp).trans h1, h2⟩
theorem TMap.below {B : Nat} (h : TMap w g es) (hb : Below B w w') (hg : g < B) : TMap w' g es := by
  obtain ⟨xs, c, h1, h2⟩ := h
  exact ⟨xs, c, (hb.block g hg).trans h1, h2⟩
theorem TMap.alloc (h : TMap w g es) (o : Obj) : TMap (w.alloc o) g es := h.kept (World.grownBy_alloc w o none) (by simp)
theorem TMap.drewN (h : TMap w g es) (n : Nat) : TMap (w.drewN n) g es := h
theorem TMap.drew (h : TMap w g es) : TMap w.drew g es := h
theorem find_tmap (k : ByteArray) : ∀ (l : List MapEntry) (es : List (ByteArray × Value)) (i : Nat), l.map (fun e => (e.key, e.val)) = es.map (fun p => (Value.string p.1, p.2)) →
    (es.find? (fun p => decide (p.1 = k)) = none → Instr.findNow .string (.string k) l i = some none) ∧
    (∀ p, es.find? (fun p => decide (p.1 = k)) = some p → ∃ j e, Instr.findNow .string (.string k) l i = some (some (i + j, p.2)) ∧ l[j]? = some e ∧ e.key = .string k ∧ es[j]? = some p) := by
  intro l
  induction l with
  | nil =>
    intro es i h
    cases es with
    | nil => exact ⟨fun _ => rfl, fun p hp => by simp at hp⟩
    | cons a r => simp at h
  | cons e l ih =>
    intro es i h
    cases es with
    | nil => simp at h
    | cons a r =>
      simp only [List.map_cons, List.cons.injEq, Prod.mk.injEq] at h
      obtain ⟨⟨h1, h2⟩, h3⟩ := h
      obtain ⟨i1, i2⟩ := ih r (i + 1) h3
      by_cases hk : a.1 = k
      · have hs : Instr.sameNow .string (.string k) e.key = some true := by rw [h1]; simp [Instr.sameNow, hk, bytes_beq]
        refine ⟨fun hf => ?_, fun p hp => ?_⟩
        · rw [List.find?_cons_of_pos (by simpa using hk)] at hf; cases hf
        · rw [List.find?_cons_of_pos (by simpa using hk)] at hp
          cases hp
          refine ⟨0, e, ?_, rfl, by rw [h1, hk], rfl⟩
          unfold Instr.findNow
          rw [hs, h2]
          rfl
      · have hs : Instr.sameNow .string (.string k) e.key = some false := by
          rw [h1]; simp [Instr.sameNow, bytes_beq]; exact fun q => hk q.symm
        refine ⟨fun hf => ?_, fun p hp => ?_⟩
        · rw [List.find?_cons_of_neg (by simpa using hk)] at hf
          unfold Instr.findNow
          rw [hs]
          exact i1 hf
        · rw [List.find?_cons_of_neg (by simpa using hk)] at hp
          obtain ⟨j, e', q1, q2, q3, q4⟩ := i2 p hp
          refine ⟨j + 1, e', ?_, by simpa using q2, q3, by simpa using q4⟩
          unfold Instr.findNow
          rw [hs]
          show Instr.findNow _ _ l (i + 1) = _
          rw [q1]
          congr 3
          omega
theorem TMap.look (h : TMap w g es) {t kt et : TypeId} (ht : P.underlying t = some (.map kt et)) (hkt : P.underlying kt = some .string) {z : Value} (hz : (zeroValue et).run P w = .ok z w) (k : ByteArray) (ok : Bool) :
    (Instr.lookup t (.map (some g)) (.string k) ok).run P w = .ok (match es.find? (fun p => decide (p.1 = k)) with
      | some p => if ok then .tuple #[p.2, .bool true] else p.2
      | none => if ok then .tuple #[z, .bool false] else z) w := by
  obtain ⟨xs, c, h1, h2⟩ := h
  obtain ⟨f1, f2⟩ := find_tmap k xs.toList es 0 h2
  cases hf : es.find? (fun p => decide (p.1 = k)) with
  | none =>
    simp only [Instr.lookup, Sem.run_bind, run_underlying ht, Result.andThen, Sem.run_pure, Go.MapKept.run_getObj_map h1, run_checkKey hkt (show IsKey .string (.string k) from trivial), run_findKey hkt (f1 hf), hz]
  | some p =>
    obtain ⟨j, e, q1, _⟩ := f2 p hf
    simp only [Instr.lookup, Sem.run_bind, run_underlying ht, Result.andThen, Sem.run_pure, Go.MapKept.run_getObj_map h1, run_checkKey hkt (show IsKey .string (.string k) from trivial), run_findKey hkt q1]
/-- a store under a new key -/
theorem TMap.put (h : TMap w g es) {t kt et : TypeId} (ht : P.underlying t = some (.map kt et)) (hkt : P.underlying kt = some .string) (k : ByteArray) (v : Value) (hn : es.find? (fun p => decide (p.1 = k)) = none) :
    ∃ w', (Instr.mapUpdate t (.map (some g)) (.string k) v).run P w = .ok () w' ∧ TMap w' g (es ++ [(k, v)]) ∧ w.grownBy w' (some g) := by
  obtain ⟨xs, c, h1, h2⟩ := h
  obtain ⟨f1, _⟩ := find_tmap k xs.toList es 0 h2
  have hlt := lt_of_some h1
  refine ⟨{ w with heap := w.heap.setIfInBounds g (.map (xs.push { key := .string k, val := v, born := c }) (c + 1)) }, ?_, ⟨xs.push { key := .string k, val := v, born := c }, c + 1, by simp [hlt], by simp [h2]⟩, ⟨rfl, rfl, rfl, by simp, fun i hi hne => ?_⟩⟩
  · simp [Instr.mapUpdate, run_underlying ht, Go.MapKept.run_getObj_map h1, run_checkKey hkt (show IsKey .string (.string k) from trivial), run_findKey hkt (f1 hn), Go.MapKept.run_setObj_map _ h1, Result.andThen]
  · have : g ≠ i := fun e => hne (by rw [e])
    simp [this]
end
section
variable {P : Program} (w : World) {ops : Array Oper} {rest : List Oper} {o : Oper} {a : Act} {Q : Exit → Act → World → Prop}
/-- a look-up at the operation -/
theorem wpList_look_t (hg : o.guard = none) (m x : Operand) (t : TypeId) (ok : Bool) (hop : o.op = Op.lookup t m x ok) (kt et : TypeId) (ht : P.underlying t = some (.map kt et)) (hkt : P.underlying kt = some .string)
    (z : Value) (hz : (zeroValue et).run P w = .ok z w) (g : Nat) (es : List (ByteArray × Value)) (k : ByteArray) (hm : a.eval m = .map (some g)) (hx : a.eval x = .string k) (h : TMap w g es) (r : Value)
    (hr : (match es.find? (fun p => decide (p.1 = k)) with
      | some p => if ok then .tuple #[p.2, .bool true] else p.2
      | none => if ok then .tuple #[z, .bool false] else z) = r)
    (hK : wpList P ops Q rest (a.put o.dst r) w) : wpList P ops Q (o :: rest) a w := by
  refine wpList_plain hg fun K' hK' => ?_
  have hrun := h.look ht hkt hz k ok
  rw [hr] at hrun
  unfold Oper.wp
  simp [execOp, hop, hm, hx, hrun, Result.andThen]
  exact hK' _ _ hK
/-- a store under a new key, at the operation -/
theorem wpList_put_t (hg : o.guard = none) (m x v : Operand) (t : TypeId) (hop : o.op = Op.mapUpdate t m x v) (kt et : TypeId) (ht : P.underlying t = some (.map kt et)) (hkt : P.underlying kt = some .string)
    (g : Nat) (es : List (ByteArray × Value)) (k : ByteArray) (val : Value) (hm : a.eval m = .map (some g)) (hx : a.eval x = .string k) (hv : a.eval v = val) (h : TMap w g es) (hn : es.find? (fun p => decide (p.1 = k)) = none)
    (hK : ∀ w', TMap w' g (es ++ [(k, val)]) → w.grownBy w' (some g) → wpList P ops Q rest (a.put o.dst undef) w') : wpList P ops Q (o :: rest) a w := by
  refine wpList_plain hg fun K' hK' => ?_
  obtain ⟨w', hrun, r1, r2⟩ := h.put ht hkt k val hn
  unfold Oper.wp
  simp [execOp, hop, hm, hx, hv, hrun, Result.andThen]
  exact hK' _ _ (hK w' r1 r2)
end
/-- the zero value of a type of the table -/
theorem run_zero_ofT {P : Program} {t : TypeId} {i : TypeInfo} {z : Value} (h : P.info? t = some i) (hz : i.zero = some z) (w : World) : (zeroValue t).run P w = .ok z w := by
  simp [zeroValue, typeInfo, h, hz]

theorem own_tmap_ne {w : World} {b : Nat} {e : TypeId} {z n g : Nat} {v : Value} {xs : List Value} {es : List (ByteArray × Value)} (h : w.ownsRow b e z v n xs) (hm : TMap w g es) : (some g : Option Nat) ≠ v.ownBlock := by
  intro q
  obtain ⟨ys, c, hm, _⟩ := hm
  rcases h.2 with ⟨rfl, _⟩ | ⟨g', cap, cur, rfl, _, hh, _⟩
  · simp [Value.ownBlock] at q
  · have : g = g' := by simpa [Value.ownBlock] using q
    subst this
    rw [hm] at hh
    cases hh

end Go.Proofs.YtdifpemohdnolaaGreat
