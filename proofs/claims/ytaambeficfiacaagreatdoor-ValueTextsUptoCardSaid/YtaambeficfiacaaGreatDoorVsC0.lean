/- Insertion into a row of the call's own: one element more, a shift by copy, a store. No conditions. -/
import Derived.Test.YtaambeficfiacaaGreatDoorVsM
import Derived.Test.YtaambeficfiacaaGreatDoorVsI
import Derived.Test.YtaambeficfiacaaGreatDoorVrJ
import Derived.Laws.CopyOwn
import Derived.Laws.OwnMore
namespace Go.Proofs.YtaambeficfiacaaGreatDoor
open Go.RowKit VM

theorem shift_list {xs : List Value} {z : Value} {cur : List Value} {n k : Nat} (hn : xs.length = n) (hk : k ≤ n) (h : cur.take (n + 1) = xs ++ [z]) : (splice cur (k + 1) (xs.drop k)).take (n + 1) = (xs ++ [z]).take (k + 1) ++ xs.drop k := by
  have hl : n + 1 ≤ cur.length := by
    have := congrArg List.length h
    rw [List.length_take, List.length_append, hn] at this
    simp at this
    omega
  have h1 : cur.take (k + 1) = (xs ++ [z]).take (k + 1) := by rw [← h, List.take_take]; congr 1; omega
  unfold splice
  rw [← List.append_assoc, List.take_append, List.take_of_length_le (by rw [List.length_append, List.length_take, List.length_drop]; omega), List.length_append, List.length_take, List.length_drop, h1]
  rw [show n + 1 - (min (k + 1) cur.length + (xs.length - k)) = 0 by omega, List.take_zero, List.append_nil]
theorem shift_set {xs : List Value} {z u : Value} {k : Nat} (hk : k ≤ xs.length) : ((xs ++ [z]).take (k + 1) ++ xs.drop k).set k u = xs.take k ++ u :: xs.drop k := by
  have hl : ((xs ++ [z]).take (k + 1)).length = k + 1 := by rw [List.length_take, List.length_append]; simp; omega
  rw [List.set_append_left _ _ (by rw [hl]; omega)]
  have e : (xs ++ [z]).take (k + 1) = xs.take k ++ [((xs ++ [z])[k]'(by simp; omega))] := by
    rw [List.take_add_one, List.getElem?_eq_getElem (by simp; omega), List.take_append_of_le_length hk]; rfl
  rw [e, List.set_append_right _ _ (by rw [List.length_take]; omega), List.length_take, show k - min k xs.length = 0 by omega]
  simp
theorem step_shift {P : Program} {ops : Array Oper} {o : Oper} {a : Act} {w w0 : World} {K : Act → World → Prop} {Q : Exit → Act → World → Prop} {E : Prop} (hgd : o.guard = none) (d s : Operand) (T : TypeId)
    (ho : o.op = .call { callee := .builtin .copy, args := #[d, s], argTypes := #[T, T] }) (e : TypeId) (hu : P.underlying T = some (.slice e)) (hsz : (P.info? e).map (·.size) = some 1)
    (base g c k n : Nat) (xs : List Value) (z : Value) (hx : ∀ v ∈ xs, v.oneCell' = true) (hk : k ≤ n) (hown : w.ownsRow base e 1 (.slice (some ⟨g, 0, none⟩) (n + 1) c) (n + 1) (xs ++ [z]))
    (hd : a.eval d = .slice (if c = k + 1 then some ⟨g, 0, none⟩ else some ⟨g, k + 1, none⟩) (n - k) (c - (k + 1))) (hs : a.eval s = .slice (some ⟨g, k, none⟩) (n + 1 - k) (c - k)) (hb : Below base w0 w)
    (h : ∀ w', w'.ownsRow base e 1 (.slice (some ⟨g, 0, none⟩) (n + 1) c) (n + 1) ((xs ++ [z]).take (k + 1) ++ xs.drop k) → Below base w0 w' → w'.frozen? ⟨g, k, none⟩ = false → (∃ old, w'.cell? ⟨g, k, none⟩ = some old) → K (a.put o.dst (goInt ((n - k : Nat) : Int))) w') :
    if Region.wanted o (yielded ops a.tmps) = true then Oper.wp P o a w K Q else E := by
  have hn : xs.length = n := by have := hown.1; simp at this; omega
  rcases hown.2 with ⟨q, _⟩ | ⟨g', cap, cur, q, hbg, hg, hnc, hcm, hcs, htake⟩
  · cases q
  · injection q with q1 q2 q3
    injection q1 with q1
    injection q1 with q1
    subst q1 q3
    rw [Nat.mul_one] at htake hcs
    have hcl : cur.toList.length = c := by rw [Array.length_toList]; exact hcs
    have hdl : (xs.drop k).length = n - k := by rw [List.length_drop, hn]
    refine step_copy_splice hgd d s T T ho e hu hsz _ _ (n - k) (c - (k + 1)) (n + 1 - k) (c - k) hd hs g (k + 1) cur.toList e (by simpa using hg) (xs.drop k) (by rw [hdl]; show _ = min _ _; omega) ?_ (by rw [hdl, hcl]; omega) (fun v hv => hx v (List.mem_of_mem_drop hv)) base w0 hb hbg ?_
    · intro hpos
      rw [hdl] at hpos
      refine ⟨if_neg (by omega), ⟨g, k, none⟩, rfl, fun j v hv => ?_⟩
      rw [add_at, cell_of_row w g (k + j) cur e (0, 0) hg, ← Array.getElem?_toList]
      rw [List.getElem?_drop] at hv
      have hj : k + j < n := by rw [← hn]; exact (List.getElem?_eq_some_iff.1 hv).1
      have h3 : (cur.toList.take (n + 1))[k + j]? = some v := by rw [htake, List.getElem?_append_left (by omega)]; exact hv
      rw [List.getElem?_take] at h3
      simpa [show k + j < n + 1 by omega] using h3
    · intro w' hw' hb'
      have hw2 : w'.heap[g]? = some (.cells (splice cur.toList (k + 1) (xs.drop k)).toArray e (0, 0)) := hw'
      have hls := length_splice cur.toList (k + 1) (xs.drop k) (by rw [hdl, hcl]; omega)
      rw [hdl]
      refine h w' ⟨?_, .inr ⟨g, c, _, rfl, hbg, hw2, hnc, hcm, ?_, ?_⟩⟩ hb' ?_ ?_
      · rw [List.length_append, List.length_take, List.length_append, hdl, hn]; simp; omega
      · rw [List.size_toArray, hls, hcl]; omega
      · rw [Nat.mul_one]; exact shift_list hn hk htake
      · simp [World.frozen?, hw2]
      · rw [cell_of_row w' g k _ e (0, 0) hw2]
        exact ⟨_, Array.getElem?_eq_getElem (by rw [List.size_toArray, hls, hcl]; omega)⟩
theorem map_str_take (out : List ByteArray) (x : ByteArray) (k : Nat) : (out.take k ++ x :: out.drop k).map Value.string = (out.map Value.string).take k ++ Value.string x :: (out.map Value.string).drop k := by
  rw [List.map_append, List.map_cons, List.map_take, List.map_drop]
theorem str_one (l : List ByteArray) : ∀ v ∈ l.map Value.string, v.oneCell' = true := by
  intro v hv
  obtain ⟨s, _, rfl⟩ := List.mem_map.1 hv
  rfl

end Go.Proofs.YtaambeficfiacaaGreatDoor
