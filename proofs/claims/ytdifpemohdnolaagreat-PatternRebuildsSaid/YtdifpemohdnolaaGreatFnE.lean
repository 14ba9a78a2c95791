/- finset.collected: the set of what an iterator hands out, or ErrOverflow. Conditions: what it hands out are strings of at most 131072 bytes, all different if none is empty; the iterator keeps to its contract. -/
import Derived.Test.YtdifpemohdnolaaGreatFnA
import Derived.RangeFuncBox
import Derived.RangeFuncLeaves
import Derived.Shelf.Abstract
import Derived.WalkKit
import Derived.OwnWalkIn
import Derived.TacticsInMore
import Derived.LoopNIn
import Derived.LoopIn
import Derived.Maps.AppendAt
import Derived.RangeFuncNested
namespace Go.Proofs.YtdifpemohdnolaaGreat
open Go.RowKit VM

/-- is this the empty string? -/
theorem isEmpty_toList (s : ByteArray) : (s.toList == []) = decide (s = ⟨#[]⟩) := by
  rw [Bool.eq_iff_iff, beq_iff_eq, decide_eq_true_eq, ByteArray.toList_eq]
  constructor
  · intro h; exact ByteArray.ext (Array.toList_inj.1 (h.trans rfl))
  · rintro rfl; rfl
end Go.Proofs.YtdifpemohdnolaaGreat
namespace Go.Proofs.YtdifpemohdnolaaGreat
open Go.RowKit Go.Shelf VM

attribute [local go_sem] Oper.semAt_some

/-- strings as values have them -/
abbrev BV := { s : ByteArray // s.size ≤ 131072 }
def bv0 : BV := ⟨⟨#[]⟩, by decide⟩
def strs (l : List BV) : List ByteArray := l.map Subtype.val
theorem strs_app (a b : List BV) : strs (a ++ b) = strs a ++ strs b := by unfold strs; rw [List.map_append]
theorem strs_len (a : List BV) : (strs a).length = a.length := by unfold strs; rw [List.length_map]
theorem attach_bv {ls : List ByteArray} (h : ∀ s ∈ ls, s.size ≤ 131072) : ∃ d : List BV, strs d = ls := by
  refine ⟨ls.attach.map fun x => ⟨x.1, h x.1 x.2⟩, ?_⟩
  unfold strs
  rw [List.map_map]
  exact (List.map_congr_left fun x _ => rfl).trans (List.attach_map_subtype_val ls)
/-- what has come when k rounds are over -/
def uptoS (zs : List BV) (k : Nat) : List BV := (List.range k).map fun j => zs[j]?.getD bv0
theorem uptoS_succ (zs : List BV) (k : Nat) : uptoS zs (k + 1) = uptoS zs k ++ [zs[k]?.getD bv0] := by simp [uptoS, List.range_succ]
theorem uptoS_length (zs : List BV) (k : Nat) : (uptoS zs k).length = k := by simp [uptoS]
theorem uptoS_take (zs : List BV) {k : Nat} (hk : k ≤ zs.length) : uptoS zs k = zs.take k := by
  apply List.ext_getElem
  · simp [uptoS, hk]
  · intro i h1 h2
    have : i < zs.length := by simp [uptoS] at h1; omega
    simp [uptoS, this]
theorem uptoS_all (zs : List BV) : uptoS zs zs.length = zs := by rw [uptoS_take zs (Nat.le_refl _), List.take_length]

/-- the slice value sv reads as zs, in a block below n₀; or it has none -/
def StrsIn (n₀ : Nat) (W : World) (sv : Value) (zs : List BV) : Prop :=
  (∃ a c, sv = .slice a 0 c ∧ zs = []) ∨ ∃ b off cap, sv = .slice (some ⟨b, off, none⟩) zs.length cap ∧ b < n₀ ∧ ∀ j, j < zs.length → W.cell? ⟨b, off + j, none⟩ = some (.string (zs[j]?.getD bv0).1)
theorem StrsIn.below {n₀ : Nat} {A B : World} (h : Below n₀ A B) {sv : Value} {zs : List BV} : StrsIn n₀ A sv zs → StrsIn n₀ B sv zs
  | .inl e => .inl e
  | .inr ⟨b, off, cap, e, hb, hc⟩ => .inr ⟨b, off, cap, e, hb, fun j hj => (h.cell (p := ⟨b, off + j, none⟩) hb).trans (hc j hj)⟩
theorem StrsIn.of {W : World} {A : Option Addr} {n c : Nat} {zs : List BV} (h : InC W A ((strs zs).map Value.string)) (hn : n = zs.length) : StrsIn W.heap.size W (.slice A n c) zs := by
  rcases h with h | ⟨b, off, rfl, hb, hc⟩
  · have : zs = [] := List.eq_nil_of_length_eq_zero (by have := congrArg List.length h; rw [List.length_map, strs_len] at this; exact this)
    subst this
    exact .inl ⟨A, c, by rw [hn]; rfl, rfl⟩
  · refine .inr ⟨b, off, c, by rw [hn], hb, fun j hj => hc j _ ?_⟩
    unfold strs
    rw [List.map_map, List.getElem?_map, List.getElem?_eq_getElem hj]; rfl

end Go.Proofs.YtdifpemohdnolaaGreat
namespace Go.Proofs.YtdifpemohdnolaaGreat
open Go.RowKit Go.Shelf VM

attribute [local go_sem] Oper.semAt_some

/-- where the boxes of collected lie -/
structure ColP (w : World) (p0 p1 p2 p3 pb : Nat) : Prop where
  b : w.heap.size ≤ p0
  d1 : p1 = p0 + 1
  d2 : p2 = p0 + 2
  d3 : p3 = p0 + 3
  d4 : pb = p0 + 4
theorem own_new {W W' : World} {base z k : Nat} {e : TypeId} {v : Value} {xs : List Value} {row : Option Nat} (h : W.ownsRow base e z v k xs) (hg : W.grownBy W' row) (hr : ∀ r, row = some r → ∃ o : Obj, W.heap[r]? = some o ∧ o.isCells = false) : W'.ownsRow base e z v k xs := by
  refine h.kept hg ?_
  rcases h.2 with ⟨rfl, _⟩ | ⟨g, cap, cur, rfl, _, hgb, _⟩
  · exact .inl rfl
  · refine .inr fun e' => ?_
    obtain ⟨o, ho, hc⟩ := hr g (by simpa [Value.ownBlock] using e'.symm)
    rw [hgb] at ho; cases ho; cases hc
theorem box_new {W W' : World} {B : Nat} {t : TypeId} {v : Value} {row : Option Nat} (h : Boxed W B t v) (hg : W.grownBy W' row) (hr : ∀ r, row = some r → ∃ o : Obj, W.heap[r]? = some o ∧ o.isCells = false) : Boxed W' B t v :=
  h.kept hg fun e' => by obtain ⟨o, ho, hc⟩ := hr B e'.symm; rw [show W.heap[B]? = _ from h] at ho; cases ho; cases hc
theorem own_store {W : World} {base k B : Nat} {v u : Value} {e : TypeId} {xs : List Value} (h : W.ownsRow base e 1 v k xs) (hB : B < base) : (W.setCell ⟨B, 0, none⟩ u).ownsRow base e 1 v k xs :=
  h.kept (grownBy_setCell' W B u) (by
    cases ho : v.ownBlock with
    | none => exact .inl rfl
    | some j => exact .inr fun q => by have := (h.lt j ho).1; injection q with q; omega)

end Go.Proofs.YtdifpemohdnolaaGreat
namespace Go.Proofs.YtdifpemohdnolaaGreat
open Go.RowKit Go.Shelf VM

attribute [local go_sem] Oper.semAt_some

/-- not over the limits -/
def Within (l : List BV) : Prop := (⟨#[]⟩ : ByteArray) ∉ strs l ∧ l.length ≤ 4096 ∧ totB (strs l) ≤ 131072
def Over (l : List BV) : Prop := (⟨#[]⟩ : ByteArray) ∈ strs l ∨ 4096 < l.length ∨ 131072 < totB (strs l)
theorem over_of {pre zs : List BV} (h : pre <+: zs) (ho : Over pre) : Over zs := by
  obtain ⟨r, rfl⟩ := h
  unfold Over at *
  rw [strs_app, totB_app, List.length_append]
  rcases ho with h | h | h
  · exact .inl (List.mem_append_left _ h)
  · exact .inr (.inl (by omega))
  · exact .inr (.inr (by omega))
theorem box_below {W W' : World} {B : Nat} {t : TypeId} {v : Value} (h : Boxed W B t v) (hb : Below W.heap.size W W') : Boxed W' B t v := (hb.block B h.lt).trans h
theorem strs_one (x : BV) : strs [x] = [x.1] := rfl
theorem tot_one (s : ByteArray) : totB [s] = s.size := by unfold totB; simp
end Go.Proofs.YtdifpemohdnolaaGreat
