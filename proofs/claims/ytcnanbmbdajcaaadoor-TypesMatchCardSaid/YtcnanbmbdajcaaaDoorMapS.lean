/- A map of the call's own, its keys of the kind int, as a function from keys to values: look-ups, stores under new and old keys, its keys. Condition: keys within 64 bits. -/
import Derived.Test.YtcnanbmbdajcaaaDoorB0
import Derived.MapKept
import Derived.Maps.OwnOps
namespace Go.Proofs.YtcnanbmbdajcaaaDoor
open Go.RowKit Go.MapKept

def SMap (w : World) (g n : Nat) (M : Int → Option Value) : Prop :=
  ∃ (xs : Array MapEntry) (c : Nat), w.heap[g]? = some (.map xs c) ∧ Stamped xs c ∧ (∀ x ∈ xs.toList, ∃ k : Int, x.key = .int .i64 k ∧ (Lit.int .i64 k).wf = true) ∧ xs.size ≤ n ∧
    ∀ k v, M k = some v ↔ ∃ (i : Nat) (x : MapEntry), xs.toList[i]? = some x ∧ x.key = .int .i64 k ∧ x.val = v
section
variable {P : Program} {w w' : World} {g n : Nat} {M : Int → Option Value}
theorem SMap.made (w : World) : SMap (w.alloc (.map #[] 0)) w.heap.size 0 (fun _ => none) := ⟨#[], 0, heap_alloc_new w _, stamped_empty 0, by simp, by simp, by simp⟩
theorem SMap.lt (h : SMap w g n M) : g < w.heap.size := by obtain ⟨xs, c, h1, _⟩ := h; exact lt_of_some h1
theorem SMap.kept {row : Option Nat} (h : SMap w g n M) (hg : w.grownBy w' row) (hne : some g ≠ row) : SMap w' g n M := by
  obtain ⟨xs, c, h1, h2⟩ := h
  exact ⟨xs, c, (hg.block g (lt_of_some h1) hne).trans h1, h2⟩
theorem SMap.below {B : Nat} (h : SMap w g n M) (hb : Below B w w') (hg : g < B) : SMap w' g n M := by
  obtain ⟨xs, c, h1, h2⟩ := h
  exact ⟨xs, c, (hb.block g hg).trans h1, h2⟩
theorem SMap.alloc (h : SMap w g n M) (o : Obj) : SMap (w.alloc o) g n M := h.kept (World.grownBy_alloc w o none) (by simp)
theorem SMap.drewN (h : SMap w g n M) (m : Nat) : SMap (w.drewN m) g n M := h
theorem SMap.drew (h : SMap w g n M) : SMap w.drew g n M := h
theorem SMap.isKeys {xs : Array MapEntry} (h : ∀ x ∈ xs.toList, ∃ k : Int, x.key = .int .i64 k ∧ (Lit.int .i64 k).wf = true) : ∀ x ∈ xs.toList, IsKey (.int .i64) x.key := by
  intro x hx
  obtain ⟨k, e, _⟩ := h x hx
  rw [e]; rfl
theorem SMap.look (h : SMap w g n M) {t kt et : TypeId} (ht : P.underlying t = some (.map kt et)) (hkt : P.underlying kt = some (.int .i64)) {z : Value} (hz : (zeroValue et).run P w = .ok z w) (k : Int) (ok : Bool) :
    (Instr.lookup t (.map (some g)) (.int .i64 k) ok).run P w = .ok (match M k with
      | some v => if ok then .tuple #[v, .bool true] else v
      | none => if ok then .tuple #[z, .bool false] else z) w := by
  obtain ⟨xs, c, h1, h2, h3, _, h5⟩ := h
  have hik : IsKey (TypeDesc.int .i64) (.int .i64 k) := rfl
  rcases findNow_spec hik xs.toList 0 (SMap.isKeys h3) with ⟨f1, f2⟩ | ⟨j, e, f1, f2, f3⟩
  · have hn : M k = none := by
      cases hm : M k with
      | none => rfl
      | some v =>
        obtain ⟨i, x, q1, q2, _⟩ := (h5 k v).1 hm
        exact absurd q2 (f2 x (List.mem_of_getElem? q1))
    rw [hn]
    simp only [Instr.lookup, Sem.run_bind, run_underlying ht, Result.andThen, Sem.run_pure, Go.MapKept.run_getObj_map h1, run_checkKey hkt hik, run_findKey hkt f1, hz]
  · have hs : M k = some e.val := (h5 k e.val).2 ⟨j, e, f2, f3, rfl⟩
    rw [hs]
    simp only [Instr.lookup, Sem.run_bind, run_underlying ht, Result.andThen, Sem.run_pure, Go.MapKept.run_getObj_map h1, run_checkKey hkt hik, run_findKey hkt f1]
def putM (M : Int → Option Value) (k : Int) (v : Value) : Int → Option Value := fun x => if x = k then some v else M x
theorem SMap.put (h : SMap w g n M) {t kt et : TypeId} (ht : P.underlying t = some (.map kt et)) (hkt : P.underlying kt = some (.int .i64)) (k : Int) (hw : (Lit.int .i64 k).wf = true) (v : Value) :
    ∃ w', (Instr.mapUpdate t (.map (some g)) (.int .i64 k) v).run P w = .ok () w' ∧ SMap w' g (n + 1) (putM M k v) ∧ w.grownBy w' (some g) := by
  obtain ⟨xs, c, h1, h2, h3, h4, h5⟩ := h
  have hik : IsKey (TypeDesc.int .i64) (.int .i64 k) := rfl
  have hlt := lt_of_some h1
  have hgr : ∀ o, w.grownBy { w with heap := w.heap.setIfInBounds g o } (some g) := fun o => ⟨rfl, rfl, rfl, by simp, fun i hi hne => by
    have : g ≠ i := fun e => hne (by rw [e])
    simp [this]⟩
  rcases findNow_spec hik xs.toList 0 (SMap.isKeys h3) with ⟨f1, f2⟩ | ⟨j, e, f1, f2, f3⟩
  · refine ⟨{ w with heap := w.heap.setIfInBounds g (.map (xs.push { key := .int .i64 k, val := v, born := c }) (c + 1)) }, ?_, ⟨_, _, (heap_set h1).1, stamped_push h2 f2, ?_, by simp; omega, fun k' v' => ?_⟩, hgr _⟩
    · simp [Instr.mapUpdate, run_underlying ht, Go.MapKept.run_getObj_map h1, run_checkKey hkt hik, run_findKey hkt f1, Go.MapKept.run_setObj_map _ h1, Result.andThen]
    · intro x hx
      simp only [Array.toList_push, List.mem_append, List.mem_singleton] at hx
      rcases hx with hx | rfl
      · exact h3 x hx
      · exact ⟨k, rfl, hw⟩
    · unfold putM
      rw [Array.toList_push]
      by_cases hk : k' = k
      · subst hk
        rw [if_pos rfl]
        constructor
        · intro e; injection e with e; subst e
          exact ⟨xs.toList.length, { key := .int .i64 k', val := v, born := c }, by rw [List.getElem?_append_right (Nat.le_refl _)]; simp, rfl, rfl⟩
        · rintro ⟨i, x, q1, q2, q3⟩
          rcases List.mem_append.1 (List.mem_of_getElem? q1) with q | q
          · exact absurd q2 (f2 x q)
          · simp at q; subst q; rw [← q3]
      · rw [if_neg hk, h5]
        constructor
        · rintro ⟨i, x, q1, q2, q3⟩
          exact ⟨i, x, by rw [List.getElem?_append_left (List.getElem?_eq_some_iff.1 q1).1]; exact q1, q2, q3⟩
        · rintro ⟨i, x, q1, q2, q3⟩
          by_cases hi : i < xs.toList.length
          · rw [List.getElem?_append_left hi] at q1
            exact ⟨i, x, q1, q2, q3⟩
          · rw [List.getElem?_append_right (by omega)] at q1
            have := List.mem_of_getElem? q1
            simp at this
            subst this
            simp at q2
            exact absurd q2.symm hk
  · have hj : xs[j]? = some e := by simpa using f2
    have hkey : ∀ e', xs[j]? = some e' → ({ e' with key := .int .i64 k, val := v } : MapEntry).key = e'.key := fun e' he' => by rw [hj] at he'; cases he'; exact f3.symm
    have hlist : (xs.modify j (fun e' => { e' with key := .int .i64 k, val := v })).toList = xs.toList.set j { e with key := .int .i64 k, val := v } := by
      rw [Array.toList_modify]
      apply List.ext_getElem?
      intro i
      rw [List.getElem?_modify, List.getElem?_set]
      by_cases hi : j = i
      · subst hi
        rw [if_pos rfl, if_pos (List.getElem?_eq_some_iff.1 f2).1, f2]; simp
      · rw [if_neg hi]; cases xs.toList[i]? <;> simp [hi]
    have hnd : ∀ (i : Nat) (x : MapEntry), xs.toList[i]? = some x → x.key = .int .i64 k → i = j := by
      intro i x q1 q2
      have hn := h2.2.2
      obtain ⟨l1, e1⟩ := List.getElem?_eq_some_iff.1 q1
      obtain ⟨l2, e2⟩ := List.getElem?_eq_some_iff.1 f2
      have hp := List.pairwise_iff_getElem.1 hn
      rcases Nat.lt_trichotomy i j with q | q | q
      · exact (hp i j (by simpa using l1) (by simpa using l2) q (by simp [e1, e2, q2, f3])).elim
      · exact q
      · exact (hp j i (by simpa using l2) (by simpa using l1) q (by simp [e1, e2, q2, f3])).elim
    refine ⟨{ w with heap := w.heap.setIfInBounds g (.map (xs.modify j (fun e' => { e' with key := .int .i64 k, val := v })) c) }, ?_, ⟨_, _, (heap_set h1).1, stamped_modify h2 _ _ (fun _ _ => rfl) (fun e' _ he' => hkey e' he'), ?_, by simp; omega, fun k' v' => ?_⟩, hgr _⟩
    · simp [Instr.mapUpdate, run_underlying ht, Go.MapKept.run_getObj_map h1, run_checkKey hkt hik, run_findKey hkt f1, hj, f3, run_keyThatStays hik, Go.MapKept.run_setObj_map _ h1, Result.andThen]
    · intro x hx
      rw [hlist] at hx
      rcases List.mem_or_eq_of_mem_set hx with hx | rfl
      · exact h3 x hx
      · exact ⟨k, rfl, hw⟩
    · unfold putM
      rw [hlist]
      have hjl := (List.getElem?_eq_some_iff.1 f2).1
      by_cases hk : k' = k
      · subst hk
        rw [if_pos rfl]
        constructor
        · intro e'; injection e' with e'; subst e'
          exact ⟨j, _, by rw [List.getElem?_set, if_pos rfl, if_pos hjl], rfl, rfl⟩
        · rintro ⟨i, x, q1, q2, q3⟩
          rw [List.getElem?_set] at q1
          by_cases hi : j = i
          · rw [if_pos hi, if_pos hjl] at q1
            injection q1 with q1; subst q1; rw [← q3]
          · rw [if_neg hi] at q1
            exact absurd (hnd i x q1 q2).symm hi
      · rw [if_neg hk, h5]
        constructor
        · rintro ⟨i, x, q1, q2, q3⟩
          have hi : j ≠ i := by
            rintro rfl
            rw [f2] at q1
            injection q1 with q1; subst q1
            rw [f3] at q2
            injection q2 with _ q2
            exact hk q2.symm
          exact ⟨i, x, by rw [List.getElem?_set, if_neg hi]; exact q1, q2, q3⟩
        · rintro ⟨i, x, q1, q2, q3⟩
          rw [List.getElem?_set] at q1
          by_cases hi : j = i
          · rw [if_pos hi, if_pos hjl] at q1
            injection q1 with q1; subst q1
            simp at q2
            exact absurd q2.symm hk
          · rw [if_neg hi] at q1
            exact ⟨i, x, q1, q2, q3⟩
end

end Go.Proofs.YtcnanbmbdajcaaaDoor
