/- finset.collected: the set of what an iterator hands out, or ErrOverflow. Conditions: what it hands out are strings of at most 131072 bytes, all different if none is empty; the iterator keeps to its contract. -/
import Derived.Test.YtkdlmgahkckjbaaGreatFnA
import Derived.RangeFuncBox
import Derived.RangeFuncLeaves
import Derived.Shelf.Abstract
import Derived.WalkKit
import Derived.OwnWalkIn
import Derived.TacticsInMore
import Derived.LoopNIn
import Derived.LoopIn
import Derived.Maps.AppendAt
import Derived.RangeFuncNested
namespace Go.Proofs.YtkdlmgahkckjbaaGreat
open Go.RowKit VM

set_option linter.unusedSimpArgs false in
set_option maxRecDepth 100000 in
set_option maxHeartbeats 3200000 in
theorem rsets_any (ps : List ByteArray) (A : Option Addr) (n c : Nat) (w : World) (hn : n = ps.length) (hn1 : n ≤ 9223372036854775807) (hs : ∀ s ∈ ps, s.size ≤ 281474976710656) (hr : InC w A (ps.map Value.string)) :
    Calls Tryz.prog 23 #[.slice A n c] w fun e w' => e = .returned (.bool (ps.all (isK 5))) ∧ Below w.heap.size w w' := by
  have HS := Lib.hid hs
  have HR := hide hr
  have HN := Lib.hid hn
  clear hs hr hn
  go_enter Tryz.func23, Tryz.ntmps23
  go_wp2_with fail
  go_loopw [3] (fun iv wr => ∃ j : Nat, iv = .int .i64 j ∧ j ≤ n ∧ Hid (InC wr A (ps.map Value.string)) ∧ Hid (ps.all (isK 5) = (ps.drop j).all (isK 5)) ∧ Hid (Below w.heap.size w wr)) (fun iv _ => n - (intOf iv).toNat)
  case atStart => exact ⟨0, rfl, by omega, unhide HR, rfl, Below.refl _ _⟩
  case round =>
    obtain ⟨j, rfl, hj, hR, hA, hB⟩ := hrel
    by_cases hil : j < n
    · obtain ⟨u, hu⟩ : ∃ u, ps[j]? = some u := ⟨ps[j]'(by have := HN.out; omega), List.getElem?_eq_getElem _⟩
      have HC := Lib.hid (fun w => rkind_any u (HS.out u (List.mem_of_getElem? hu)) w)
      have HST : Hid (ps.all (isK 5) = (isK 5 u && (ps.drop (j + 1)).all (isK 5))) := Lib.hid (by rw [hA.out]; exact all_step hu)
      have hk : (kindM u == 5) = isK 5 u := kind_isK (k := 5) (by decide)
      obtain ⟨b5, o5, hA1, hb5, hc5⟩ := at1s hR.out (i := j) (u := .string u) (by rw [List.getElem?_map, hu]; rfl)
      subst hA1
      generalize kindM u = z at *
      clear hu hA
      cases hz : isK 5 u with
      | true =>
        rw [hz] at hk
        have HA2 : Hid (ps.all (isK 5) = (ps.drop (j + 1)).all (isK 5)) := Lib.hid (by rw [HST.out, hz, Bool.true_and])
        clear HST hz
        go_wp2_with fail
        refine (HC.out _).mono ?_
        rintro e w3 ⟨rfl, hb⟩
        have HB9 := hide (hB.out.trans (hb.mono hB.out.size))
        have HR8 := hide (hR.out.below hb)
        clear hb HC hB hR hc5 hb5
        go_wp2_with fail
        go_roundw
        case rel => exact ⟨j + 1, by go_num, by omega, unhide HR8, HA2.out, unhide HB9⟩
        case measure => simp [intOf]; omega
      | false =>
        rw [hz] at hk
        have HA2 : Hid (ps.all (isK 5) = false) := Lib.hid (by rw [HST.out, hz, Bool.false_and])
        clear HST hz
        go_wp2_with fail
        refine (HC.out _).mono ?_
        rintro e w3 ⟨rfl, hb⟩
        have HB9 := hide (hB.out.trans (hb.mono hB.out.size))
        clear hb HC hB hR hc5 hb5
        go_wp2_with fail
        go_ret
        exact ⟨by rw [HA2.out]; rfl, unhide HB9⟩
    · have HA2 : Hid (ps.all (isK 5) = true) := Lib.hid (by
        rw [hA.out, List.drop_eq_nil_of_le (by have := HN.out; omega)]; rfl)
      go_wp2_with fail
      go_ret
      exact ⟨by rw [HA2.out]; rfl, hB.out⟩
/-- is this the empty string? -/
theorem isEmpty_toList (s : ByteArray) : (s.toList == []) = decide (s = ⟨#[]⟩) := by
  rw [Bool.eq_iff_iff, beq_iff_eq, decide_eq_true_eq, ByteArray.toList_eq]
  constructor
  · intro h; exact ByteArray.ext (Array.toList_inj.1 (h.trans rfl))
  · rintro rfl; rfl
set_option linter.unusedSimpArgs false in
set_option maxRecDepth 100000 in
set_option maxHeartbeats 3200000 in
theorem rbounded_any (ps : List ByteArray) (A : Option Addr) (n c : Nat) (w : World) (hn : n = ps.length) (hn1 : n ≤ 1048576) (hs : ∀ s ∈ ps, s.size ≤ 281474976710656) (hr : InC w A (ps.map Value.string)) :
    Calls Tryz.prog 25 #[.slice A n c] w fun e w' => e = .returned (.tuple #[.string (bnd ps).1, .int .i64 (bnd ps).2]) ∧ Below w.heap.size w w' := by
  have HS := hide (rsort_any ps A n c w hn hn1 hs hr)
  have hll := sortM_len ps
  have HT := Lib.hid (fun w B cb L (hL : L = (sortM ps).length) hr => rset_any (sortM ps) B L cb w hL (by omega) (fun s h => hs s (sortM_mem.1 h)) hr)
  rw [sortM_self (sortM_asc ps)] at HT
  change Hid (∀ w B cb L, L = (sortM ps).length → InC w B ((sortM ps).map Value.string) → Calls _ _ _ w fun e w' => e = .returned (.string (setM ps)) ∧ _) at HT
  have HB : Hid (bnd ps = if (sortM ps).length > 4096 ∨ setM ps = ⟨#[]⟩ then (⟨#[]⟩, 9) else (setM ps, 0)) := Lib.hid rfl
  generalize bnd ps = r at *
  generalize setM ps = m at *
  generalize sortM ps = so at *
  clear hn hs hr hll
  go_enter Tryz.func25, Tryz.ntmps25
  go_wp2_with fail
  refine (unhide HS).mono ?_
  rintro e w1 ⟨B, cb, L, rfl, hL, hO, hb1⟩
  have HB1 := hide hb1
  have HI := hide (InC.own hO)
  have HL := Lib.hid hL
  clear hb1 hO hL HS
  by_cases h4 : 4096 < L
  · have HR : Hid (r = (⟨#[]⟩, 9)) := Lib.hid (by rw [HB.out, if_pos (.inl (by rw [← HL.out]; exact h4))])
    go_wp2_with fail
    go_ret2
    exact ⟨by rw [HR.out]; rfl, unhide HB1⟩
  · go_wp2_with fail
    refine (HT.out _ _ _ _ HL.out (unhide HI)).mono ?_
    rintro e w2 ⟨rfl, hb2⟩
    have HB2 := hide ((unhide HB1).trans (hb2.mono (unhide HB1).size))
    clear hb2 HT
    have he := isEmpty_toList m
    by_cases hm : m = ⟨#[]⟩
    · have HR : Hid (r = (⟨#[]⟩, 9)) := Lib.hid (by rw [HB.out, if_pos (.inr hm)])
      subst hm
      go_wp2_with fail
      go_ret2
      exact ⟨by rw [HR.out]; rfl, unhide HB2⟩
    · have HR : Hid (r = (m, 0)) := Lib.hid (by rw [HB.out, if_neg (by rw [← HL.out]; rintro (q | q); omega; exact hm q)])
      rw [decide_eq_false hm] at he
      have he2 : m.toList.isEmpty = false := by rw [List.isEmpty_eq_false_iff]; intro q; rw [q] at he; cases he
      clear hm
      go_wp2_with fail
      go_ret2
      exact ⟨by rw [HR.out]; rfl, unhide HB2⟩

end Go.Proofs.YtkdlmgahkckjbaaGreat
namespace Go.Proofs.YtkdlmgahkckjbaaGreat
open Go.RowKit Go.Shelf VM

attribute [local go_sem] Oper.semAt_some

/-- strings as values have them -/
abbrev BV := { s : ByteArray // s.size ≤ 131072 }
def bv0 : BV := ⟨⟨#[]⟩, by decide⟩
def strs (l : List BV) : List ByteArray := l.map Subtype.val
theorem strs_app (a b : List BV) : strs (a ++ b) = strs a ++ strs b := by unfold strs; rw [List.map_append]
theorem strs_len (a : List BV) : (strs a).length = a.length := by unfold strs; rw [List.length_map]
theorem attach_bv {ls : List ByteArray} (h : ∀ s ∈ ls, s.size ≤ 131072) : ∃ d : List BV, strs d = ls := by
  refine ⟨ls.attach.map fun x => ⟨x.1, h x.1 x.2⟩, ?_⟩
  unfold strs
  rw [List.map_map]
  exact (List.map_congr_left fun x _ => rfl).trans (List.attach_map_subtype_val ls)
/-- what has come when k rounds are over -/
def uptoS (zs : List BV) (k : Nat) : List BV := (List.range k).map fun j => zs[j]?.getD bv0
theorem uptoS_succ (zs : List BV) (k : Nat) : uptoS zs (k + 1) = uptoS zs k ++ [zs[k]?.getD bv0] := by simp [uptoS, List.range_succ]
theorem uptoS_length (zs : List BV) (k : Nat) : (uptoS zs k).length = k := by simp [uptoS]
theorem uptoS_take (zs : List BV) {k : Nat} (hk : k ≤ zs.length) : uptoS zs k = zs.take k := by
  apply List.ext_getElem
  · simp [uptoS, hk]
  · intro i h1 h2
    have : i < zs.length := by simp [uptoS] at h1; omega
    simp [uptoS, this]
theorem uptoS_all (zs : List BV) : uptoS zs zs.length = zs := by rw [uptoS_take zs (Nat.le_refl _), List.take_length]

set_option maxRecDepth 100000 in
set_option maxHeartbeats 2000000 in
theorem vals1_in (F : Fence) (n : Nat) (h7 : F.fn 48) (hro : F.round = none) (hn : 1 ≤ n) (l Bs n₀ b off len cap : Nat) (zs : List BV) (hlen : len < 1152921504606846976) (hb : b < n₀) (J Jx : List BV → World → Prop)
    (hY : ∀ pre x W, J pre W → pre.length < len → YieldAt F (n - 1) Tryz.prog l #[.string x.1] W fun e W' =>
      (e = .returned (.bool true) ∧ J (pre ++ [x]) W' ∧ Below n₀ W W') ∨ (e = .returned (.bool false) ∧ Jx (pre ++ [x]) W'))
    (W : World) (hBs : W.cell? ⟨Bs, 0, none⟩ = some (.slice (some ⟨b, off, none⟩) len cap)) (hc : ∀ j, j < len → W.cell? ⟨b, off + j, none⟩ = some (.string (zs[j]?.getD bv0).1)) (h0 : J [] W) :
    CallsIn F n Tryz.prog 48 #[.func (.yield l) #[] #[], .pointer (some ⟨Bs, 0, none⟩)] W fun e W' => (∃ v, e = .returned v) ∧
      ((∃ ys, ys = uptoS zs len ∧ J ys W') ∨ (∃ pre, (∃ k, k ≤ len ∧ pre = uptoS zs k) ∧ Jx pre W')) := by
  refine callsIn_of_wp Tryz.func48 rfl h7 ?_ hro
  simp only [Tryz.ntmps48, List.size_toArray, List.length_cons, List.length_nil, Nat.reduceAdd, Nat.reduceSub, Array.replicate_succ, Array.replicate_zero, List.push_toArray, List.append_toArray, List.nil_append, List.cons_append]
  gi_wp2
  gi_loopw [7] (fun i wr => ∃ k : Nat, k ≤ len ∧ i = .int .i64 k ∧ J (uptoS zs k) wr ∧ Below n₀ W wr)
    (fun i _ => len - (intOf i).toNat)
  case atStart => exact ⟨0, Nat.zero_le _, rfl, h0, Below.refl _ _⟩
  case round =>
    obtain ⟨k, hk, rfl, hJs, hnx⟩ := hrel
    have hcx : k < len → wr.cell? ⟨b, off + k, none⟩ = some (.string (zs[k]?.getD bv0).1) := fun h => (hnx.cell (p := ⟨b, off + k, none⟩) hb).trans (hc k h)
    by_cases hlt : k < len
    · have hus := uptoS_succ zs k
      have hcx' := hcx hlt
      clear hcx
      generalize zs[k]?.getD bv0 = x at *
      obtain ⟨fn, tmps, assign, body, hy, hR⟩ := hY _ x wr hJs (by rw [uptoS_length]; exact hlt)
      gi_wp2
      refine hR.mono ?_
      rintro e W3 (⟨rfl, hJ3, hk3⟩ | ⟨rfl, hJx3⟩)
      · gi_wp2
        go_roundw
        case rel => exact ⟨k + 1, by omega, by simp, by rw [hus]; exact hJ3, hnx.trans hk3⟩
        case measure => simp [intOf]; omega
      · gi_wp2
        refine bodyPost_ret (results_none rfl _ _ _) rfl ?_
        exact ⟨⟨_, rfl⟩, .inr ⟨_, ⟨k + 1, by omega, hus.symm⟩, hJx3⟩⟩
    · obtain rfl : k = len := by omega
      gi_wp2
      go_end0
      exact ⟨⟨_, rfl⟩, .inl ⟨_, rfl, hJs⟩⟩

/-- the slice value sv reads as zs, in a block below n₀; or it has none -/
def StrsIn (n₀ : Nat) (W : World) (sv : Value) (zs : List BV) : Prop :=
  (∃ a c, sv = .slice a 0 c ∧ zs = []) ∨ ∃ b off cap, sv = .slice (some ⟨b, off, none⟩) zs.length cap ∧ b < n₀ ∧ ∀ j, j < zs.length → W.cell? ⟨b, off + j, none⟩ = some (.string (zs[j]?.getD bv0).1)
theorem StrsIn.below {n₀ : Nat} {A B : World} (h : Below n₀ A B) {sv : Value} {zs : List BV} : StrsIn n₀ A sv zs → StrsIn n₀ B sv zs
  | .inl e => .inl e
  | .inr ⟨b, off, cap, e, hb, hc⟩ => .inr ⟨b, off, cap, e, hb, fun j hj => (h.cell (p := ⟨b, off + j, none⟩) hb).trans (hc j hj)⟩
theorem StrsIn.of {W : World} {A : Option Addr} {n c : Nat} {zs : List BV} (h : InC W A ((strs zs).map Value.string)) (hn : n = zs.length) : StrsIn W.heap.size W (.slice A n c) zs := by
  rcases h with h | ⟨b, off, rfl, hb, hc⟩
  · have : zs = [] := List.eq_nil_of_length_eq_zero (by have := congrArg List.length h; rw [List.length_map, strs_len] at this; exact this)
    subst this
    exact .inl ⟨A, c, by rw [hn]; rfl, rfl⟩
  · refine .inr ⟨b, off, c, by rw [hn], hb, fun j hj => hc j _ ?_⟩
    unfold strs
    rw [List.map_map, List.getElem?_map, List.getElem?_eq_getElem hj]; rfl

set_option maxRecDepth 100000 in
set_option maxHeartbeats 1000000 in
theorem vals1_nil_in (F : Fence) (n : Nat) (h7 : F.fn 48) (hro : F.round = none) (l Bs : Nat) (a : Option Addr) (c : Nat) (J : List BV → World → Prop) (W : World) (hBs : W.cell? ⟨Bs, 0, none⟩ = some (.slice a 0 c)) (h0 : J [] W) :
    CallsIn F n Tryz.prog 48 #[.func (.yield l) #[] #[], .pointer (some ⟨Bs, 0, none⟩)] W fun e W' => (∃ v, e = .returned v) ∧ J [] W' := by
  refine callsIn_of_wp Tryz.func48 rfl h7 ?_ hro
  simp only [Tryz.ntmps48, List.size_toArray, List.length_cons, List.length_nil, Nat.reduceAdd, Nat.reduceSub, Array.replicate_succ, Array.replicate_zero, List.push_toArray, List.append_toArray, List.nil_append, List.cons_append]
  gi_wp2
  gi_loopw [7] (fun i wr => i = .int .i64 0 ∧ J [] wr) (fun _ _ => 0)
  case atStart => exact ⟨rfl, h0⟩
  case round =>
    obtain ⟨rfl, hJs⟩ := hrel
    gi_wp2
    go_end0
    exact ⟨⟨_, rfl⟩, hJs⟩

set_option maxHeartbeats 1000000 in
/-- slices.Values: the slice is boxed, the function captures the box -/
theorem vals_any (a : Option Addr) (len cap : Nat) (w : World) :
    Calls Tryz.prog 27 #[.slice a len cap] w fun e w' => e = .returned (.func (.func 48) #[] #[.pointer (some ⟨w.heap.size, 0, none⟩)]) ∧ w' = w.alloc (.cells #[.slice a len cap] 22) := by
  refine (callsIn_wide (n := 1)).1 (callsIn_of_wp Tryz.func27 rfl trivial ?_ rfl)
  simp only [Tryz.ntmps27, List.size_toArray, List.length_cons, List.length_nil, Nat.reduceAdd, Nat.reduceSub, Array.replicate_succ, Array.replicate_zero, List.push_toArray, List.append_toArray, List.nil_append, List.cons_append]
  gi_wp2
  go_ret
  exact ⟨rfl, rfl⟩
theorem vals_stops (F : Fence) (n : Nat) (h7 : F.fn 48) (hro : F.round = none) (hn : 1 ≤ n) (Bs n₀ : Nat) (sv : Value) (zs : List BV) (hlen : zs.length < 1152921504606846976) (w : World) (hBs : Bs < w.heap.size) (hn₀ : n₀ ≤ w.heap.size)
    (hc : w.cell? ⟨Bs, 0, none⟩ = some sv) (hI : StrsIn n₀ w sv zs) :
    SeqStopsK F n Tryz.prog 48 #[.pointer (some ⟨Bs, 0, none⟩)] (fun x : BV => #[Value.string x.1]) (Below n₀) (fun ys => ys = zs) (fun pre => pre <+: zs) zs.length w := fun l J Jx W hW _ _ hY h0 => by
  have hc' := (hW.cell (p := ⟨Bs, 0, none⟩) hBs).trans hc
  rcases hI.below (hW.mono hn₀) with ⟨a, c, rfl, rfl⟩ | ⟨b, off, cap, rfl, hb, hcs⟩
  · exact (vals1_nil_in F n h7 hro l Bs a c J W hc' h0).mono fun e W' ⟨he, hj⟩ => ⟨he, .inl ⟨_, rfl, hj⟩⟩
  · refine (vals1_in F n h7 hro hn l Bs n₀ b off zs.length cap zs hlen hb J Jx hY W hc' hcs h0).mono ?_
    rintro e W' ⟨he, ⟨ys, rfl, hj⟩ | ⟨pre, ⟨k, hk, rfl⟩, hj⟩⟩
    · exact ⟨he, .inl ⟨_, uptoS_all zs, hj⟩⟩
    · exact ⟨he, .inr ⟨_, by rw [uptoS_take zs hk]; exact List.take_prefix _ _, hj⟩⟩

end Go.Proofs.YtkdlmgahkckjbaaGreat
namespace Go.Proofs.YtkdlmgahkckjbaaGreat
open Go.RowKit Go.Shelf VM

attribute [local go_sem] Oper.semAt_some

/-- where the boxes of collected lie -/
structure ColP (w : World) (p0 p1 p2 p3 pb : Nat) : Prop where
  b : w.heap.size ≤ p0
  d1 : p1 = p0 + 1
  d2 : p2 = p0 + 2
  d3 : p3 = p0 + 3
  d4 : pb = p0 + 4
/-- the boxes of collected between two rounds -/
structure ColI (w : World) (p0 p1 p2 p3 pb : Nat) (pre : List BV) (W : World) : Prop where
  r0 : Boxed W p0 27 (.string ⟨#[]⟩)
  r1 : Boxed W p1 29 (.int .i64 0)
  l : ∃ v, Boxed W p2 22 v ∧ W.ownsRow pb 27 1 v pre.length ((strs pre).map Value.string)
  n : Boxed W p3 3 (.int .i64 (totB (strs pre) : Int))
  b : Below w.heap.size w W
/-- where a round has left the loop -/
structure ColX (w : World) (p0 p1 : Nat) (W : World) : Prop where
  r0 : Boxed W p0 27 (.string ⟨#[]⟩)
  r1 : Boxed W p1 29 (.int .i64 9)
  b : Below w.heap.size w W
theorem own_new {W W' : World} {base z k : Nat} {e : TypeId} {v : Value} {xs : List Value} {row : Option Nat} (h : W.ownsRow base e z v k xs) (hg : W.grownBy W' row) (hr : ∀ r, row = some r → ∃ o : Obj, W.heap[r]? = some o ∧ o.isCells = false) : W'.ownsRow base e z v k xs := by
  refine h.kept hg ?_
  rcases h.2 with ⟨rfl, _⟩ | ⟨g, cap, cur, rfl, _, hgb, _⟩
  · exact .inl rfl
  · refine .inr fun e' => ?_
    obtain ⟨o, ho, hc⟩ := hr g (by simpa [Value.ownBlock] using e'.symm)
    rw [hgb] at ho; cases ho; cases hc
theorem box_new {W W' : World} {B : Nat} {t : TypeId} {v : Value} {row : Option Nat} (h : Boxed W B t v) (hg : W.grownBy W' row) (hr : ∀ r, row = some r → ∃ o : Obj, W.heap[r]? = some o ∧ o.isCells = false) : Boxed W' B t v :=
  h.kept hg fun e' => by obtain ⟨o, ho, hc⟩ := hr B e'.symm; rw [show W.heap[B]? = _ from h] at ho; cases ho; cases hc
theorem ColI.from (w : World) (p0 p1 p2 p3 pb : Nat) {B : Nat} (hB : w.heap.size ≤ B) : OwnFrom B (ColI w p0 p1 p2 p3 pb) := fun _ _ _ _ h hg hr => by
  obtain ⟨v, h1, h2⟩ := h.l
  exact ⟨box_new h.r0 hg fun r e => (hr r e).2, box_new h.r1 hg fun r e => (hr r e).2, ⟨v, box_new h1 hg fun r e => (hr r e).2, own_new h2 hg fun r e => (hr r e).2⟩, box_new h.n hg fun r e => (hr r e).2,
    h.b.grown hg h.b.size (fun k e => Nat.le_trans hB (hr k e).1)⟩
theorem ColX.from (w : World) (p0 p1 : Nat) {B : Nat} (hB : w.heap.size ≤ B) : OwnFrom B (fun (_ : List BV) W => ColX w p0 p1 W) := fun _ _ _ _ h hg hr =>
  ⟨box_new h.r0 hg fun r e => (hr r e).2, box_new h.r1 hg fun r e => (hr r e).2, h.b.grown hg h.b.size (fun k e => Nat.le_trans hB (hr k e).1)⟩
theorem ColI.start (w : World) {p0 p1 p2 p3 pb : Nat} (h0 : p0 = w.heap.size) (h1 : p1 = w.heap.size + 1) (h2 : p2 = w.heap.size + 1 + 1) (h3 : p3 = w.heap.size + 1 + 1 + 1) : ColI w p0 p1 p2 p3 pb [] ((((w.alloc (.cells #[.string ⟨#[]⟩] 27)).alloc (.cells #[.int .i64 0] 29)).alloc (.cells #[.slice none 0 0] 22)).alloc (.cells #[.int .i64 0] 3)) := by
  have b0 := Boxed.new w 27 (.string ⟨#[]⟩)
  have b1 := Boxed.new (w.alloc (.cells #[.string ⟨#[]⟩] 27)) 29 (.int .i64 0)
  have b2 := Boxed.new ((w.alloc (.cells #[.string ⟨#[]⟩] 27)).alloc (.cells #[.int .i64 0] 29)) 22 (.slice none 0 0)
  have b3 := Boxed.new (((w.alloc (.cells #[.string ⟨#[]⟩] 27)).alloc (.cells #[.int .i64 0] 29)).alloc (.cells #[.slice none 0 0] 22)) 3 (.int .i64 0)
  rw [World.size_alloc] at b1
  rw [World.size_alloc, World.size_alloc] at b2
  rw [World.size_alloc, World.size_alloc, World.size_alloc] at b3
  subst h0 h1 h2 h3
  exact ⟨((b0.alloc _).alloc _).alloc _, (b1.alloc _).alloc _, ⟨_, b2.alloc _, World.ownsRow_nil _ _ _ _⟩, b3, ((((Below.refl _ w).alloc (Nat.le_refl _) _).alloc (by simp) _).alloc (by simp; omega) _).alloc (by simp; omega) _⟩
/-- behind an append to the row -/
theorem col_app {w W w1 : World} {p0 p1 p2 p3 pb k : Nat} {r e u v : Value} {xs : List Value} {tmp : Obj} (hp : ColP w p0 p1 p2 p3 pb) (h0 : Boxed W p0 27 r) (h1 : Boxed W p1 29 e) (h2 : Boxed W p2 22 v) (h3 : Boxed W p3 3 u)
    (hrow : W.ownsRow pb 27 1 v k xs) (hgrow : (W.alloc tmp).grownBy w1 v.ownBlock) :
    Boxed w1 p0 27 r ∧ Boxed w1 p1 29 e ∧ Boxed w1 p2 22 v ∧ Boxed w1 p3 3 u ∧ KeepsOthers W w1 ∧ Below w.heap.size W w1 := by
  obtain ⟨hb, rfl, rfl, rfl, rfl⟩ := hp
  have hne : ∀ j, j < p0 + 4 → some j ≠ v.ownBlock := fun j hj e => by have := (hrow.lt j e.symm).1; omega
  refine ⟨(h0.alloc _).kept hgrow (hne _ (by omega)), (h1.alloc _).kept hgrow (hne _ (by omega)), (h2.alloc _).kept hgrow (hne _ (by omega)), (h3.alloc _).kept hgrow (hne _ (by omega)), ?_, ?_⟩
  · refine (KeepsOthers.alloc W tmp).trans (KeepsOthers.of_grownBy hgrow fun j o ej hj => ?_)
    rcases (hrow.alloc tmp).2 with ⟨rfl, _⟩ | ⟨g, cap, cur, rfl, _, hgb, _⟩
    · simp [Value.ownBlock] at ej
    · obtain rfl : g = j := by simpa [Value.ownBlock] using ej
      rw [hgb] at hj; cases hj; rfl
  · have hB := h0.lt
    exact ((Below.refl _ W).alloc (by omega) tmp).grown hgrow (by simp; omega) fun j ej => by have := (hrow.lt j ej).1; omega
theorem own_store {W : World} {base k B : Nat} {v u : Value} {e : TypeId} {xs : List Value} (h : W.ownsRow base e 1 v k xs) (hB : B < base) : (W.setCell ⟨B, 0, none⟩ u).ownsRow base e 1 v k xs :=
  h.kept (grownBy_setCell' W B u) (by
    cases ho : v.ownBlock with
    | none => exact .inl rfl
    | some j => exact .inr fun q => by have := (h.lt j ho).1; injection q with q; omega)

end Go.Proofs.YtkdlmgahkckjbaaGreat
namespace Go.Proofs.YtkdlmgahkckjbaaGreat
open Go.RowKit Go.Shelf VM

attribute [local go_sem] Oper.semAt_some

/-- not over the limits -/
def Within (l : List BV) : Prop := (⟨#[]⟩ : ByteArray) ∉ strs l ∧ l.length ≤ 4096 ∧ totB (strs l) ≤ 131072
def Over (l : List BV) : Prop := (⟨#[]⟩ : ByteArray) ∈ strs l ∨ 4096 < l.length ∨ 131072 < totB (strs l)
theorem over_of {pre zs : List BV} (h : pre <+: zs) (ho : Over pre) : Over zs := by
  obtain ⟨r, rfl⟩ := h
  unfold Over at *
  rw [strs_app, totB_app, List.length_append]
  rcases ho with h | h | h
  · exact .inl (List.mem_append_left _ h)
  · exact .inr (.inl (by omega))
  · exact .inr (.inr (by omega))
theorem box_below {W W' : World} {B : Nat} {t : TypeId} {v : Value} (h : Boxed W B t v) (hb : Below W.heap.size W W') : Boxed W' B t v := (hb.block B h.lt).trans h
theorem strs_one (x : BV) : strs [x] = [x.1] := rfl
theorem tot_one (s : ByteArray) : totB [s] = s.size := by unfold totB; simp
set_option linter.unusedSimpArgs false in
set_option maxRecDepth 100000 in
set_option maxHeartbeats 4000000 in
theorem collected_in (n : Nat) (hn : 3 ≤ n) (gf : Nat) (lb : Array Value) (eg : ∀ args w, (callFunc gf args).run Tryz.prog w = .ok (.enter gf args) w) (zs : List BV) (hnd : (∀ x ∈ strs zs, x ≠ ⟨#[]⟩) → (strs zs).Nodup) (hlen : zs.length ≤ 16777216) (w : World)
    (hseq : SeqStopsK Fence.wide (n - 1) Tryz.prog gf lb (fun x : BV => #[Value.string x.1]) (Below w.heap.size) (fun ys => ys = zs) (fun pre => pre <+: zs) zs.length w) :
    CallsIn Fence.wide n Tryz.prog 21 #[.func (.func gf) #[] lb] w fun e W' => e = .returned (.tuple #[.string (bnd (strs zs)).1, .int .i64 (bnd (strs zs)).2]) ∧ Below w.heap.size w W' := by
  have h1 : 1 ≤ n := by omega
  have h2 : 1 ≤ n - 1 - 1 := by omega
  have hro : Fence.wide.round = none := rfl
  obtain ⟨i0, hi0, hiz0, hiz1, hiz2⟩ := info_parts val_info
  refine callsIn_of_wp_marks Tryz.func21 rfl trivial ?_ hro
  simp only [Tryz.ntmps21, List.size_toArray, List.length_cons, List.length_nil, Nat.reduceAdd, Nat.reduceSub, Array.replicate_succ, Array.replicate_zero, List.push_toArray, List.append_toArray, List.nil_append, List.cons_append]
  gi_wp2
  have hI0 := ColI.start w (pb := w.heap.size + 4) rfl rfl rfl rfl
  have hsz0 : ((((w.alloc (.cells #[.string ⟨#[]⟩] 27)).alloc (.cells #[.int .i64 0] 29)).alloc (.cells #[.slice none 0 0] 22)).alloc (.cells #[.int .i64 0] 3)).heap.size = w.heap.size + 4 := by simp
  generalize (((w.alloc (.cells #[.string ⟨#[]⟩] 27)).alloc (.cells #[.int .i64 0] 29)).alloc (.cells #[.slice none 0 0] 22)).alloc (.cells #[.int .i64 0] 3) = w0 at *
  have hp : ColP w w.heap.size (w.heap.size + 1) (w.heap.size + 1 + 1) (w.heap.size + 1 + 1 + 1) (w.heap.size + 4) := ⟨Nat.le_refl _, rfl, by omega, by omega, rfl⟩
  obtain ⟨pb, hpb⟩ : ∃ p, p = w.heap.size + 4 := ⟨_, rfl⟩
  obtain ⟨p3, hp3⟩ : ∃ p, p = w.heap.size + 1 + 1 + 1 := ⟨_, rfl⟩
  obtain ⟨p2, hp2⟩ : ∃ p, p = w.heap.size + 1 + 1 := ⟨_, rfl⟩
  obtain ⟨p1, hp1⟩ : ∃ p, p = w.heap.size + 1 := ⟨_, rfl⟩
  obtain ⟨p0, hp0⟩ : ∃ p, p = w.heap.size := ⟨_, rfl⟩
  have hle : w.heap.size ≤ w0.heap.size := by omega
  rw [← hpb, ← hp3, ← hp2, ← hp1] at hI0 hp
  rw [← hp3, ← hp2, ← hp1, ← hp0]
  have hI0 : ColI w p0 p1 p2 p3 pb [] w0 := by rw [hp0]; exact hI0
  have hp : ColP w p0 p1 p2 p3 pb := by rw [hp0]; exact hp
  have n02 : p0 ≠ p2 := by omega
  have n12 : p1 ≠ p2 := by omega
  have n32 : p3 ≠ p2 := by omega
  have n23 : p2 ≠ p3 := by omega
  have n03 : p0 ≠ p3 := by omega
  have n13 : p1 ≠ p3 := by omega
  have n10 : p1 ≠ p0 := by omega
  have g0 : w.heap.size ≤ p0 := by omega
  have g1 : w.heap.size ≤ p1 := by omega
  have g2 : w.heap.size ≤ p2 := by omega
  have g3 : w.heap.size ≤ p3 := by omega
  have l2 : p2 < pb := by omega
  have l3 : p3 < pb := by omega
  have n01 : p0 ≠ p1 := by omega
  clear hpb hp3 hp2 hp1 hp0
  refine wpIn_rangeFunc_ownG hro h1 (gf := gf) (lb := lb) rfl trivial eg hseq belowK_t (belowK_b hle) hI0.b (fun _ => rfl)
    (fun pre W => ColI w p0 p1 p2 p3 pb pre W ∧ Within pre)
    (fun c pre W => c = .ret ∧ Over pre ∧ ColX w p0 p1 W)
    (OwnFrom.and (ColI.from w p0 p1 p2 p3 pb hle) (ownFrom_pure _ _))
    (fun _ _ _ _ _ hs hg hr => ⟨hs.1, hs.2.1, ColX.from w p0 p1 hle [] _ _ _ hs.2.2 hg hr⟩)
    ⟨hI0, by unfold Within strs totB; simp⟩
    (fun x => { tmps := #[.func (.func gf) #[] lb, undef, .pointer (some ⟨p0, 0, none⟩), .pointer (some ⟨p1, 0, none⟩), .pointer (some ⟨p2, 0, none⟩), .pointer (some ⟨p3, 0, none⟩), .string x.1, undef, .func (.func gf) #[] lb, .string x.1, undef, undef, undef, undef, undef, undef, undef, undef, undef, undef, undef, undef, undef, undef, undef, undef, undef, undef, undef, undef, undef, undef, undef, undef], defers := [] }) ?assign ?body ?done ?stop
  case assign =>
    intro l x W K hK
    gi_wp2
    exact hK
  case body =>
    rintro l pre ⟨s, hs⟩ W ⟨hI, hW⟩ hlt
    obtain ⟨v, hv, hrow⟩ := hI.l
    obtain ⟨A2, c2, rfl⟩ := owns_form hrow
    have hc2 := hv.cell
    have hts := hW.2.2
    have hpl := hW.2.1
    dsimp only
    by_cases hE : s = ⟨#[]⟩
    · subst hE
      gi_wp2_with (gi_at_builtin; refine wpListIn_append_own _ rfl _ _ 22 rfl pb 27 i0 (.string ⟨#[]⟩) 1 16 Tryz.underlying22 hi0 hiz0 hiz1 hiz2 rfl (by decide) _ _ _ rfl (hrow.alloc _) ⟨W.heap.size, 0, none⟩ 1 1 [.string ⟨#[]⟩] rfl rfl (cell_one_new _ _ _) (by simp [Value.oneCell']) (by unfold maxLen; omega) (by omega) (by have := hI.n.lt; have := hp.d3; have := hp.d4; simp; omega) ?_; intro v' w1 hown' hgrow _; obtain ⟨g', cap', rfl⟩ := ownsRow_succ hown'; obtain ⟨k0, k1, k2, k3, k4, k5⟩ := col_app hp hI.r0 hI.r1 hv hI.n hrow hgrow; have d2 := k2.cell; have f2 := k2.frozen; have m0 := k0.other n02 (.slice (some ⟨g', 0, none⟩) (pre.length + 1) cap'); have m1 := k1.other n12 (.slice (some ⟨g', 0, none⟩) (pre.length + 1) cap'); have m2 := k2.set (.slice (some ⟨g', 0, none⟩) (pre.length + 1) cap'); have m3 := k3.other n32 (.slice (some ⟨g', 0, none⟩) (pre.length + 1) cap'); have d3 := m3.cell; have f3 := m3.frozen; have e2 := (m2.other n23 (.int .i64 (totB (strs pre) : Int))).cell; have q0 := m0.other n03 (.int .i64 (totB (strs pre) : Int)); have q0c := q0.cell; have q0f := q0.frozen; have q1 := m1.other n13 (.int .i64 (totB (strs pre) : Int)); have z1 := q1.other n10 (.string ⟨#[]⟩); have z1c := z1.cell; have z1f := z1.frozen)
      exact ⟨((((k4.trans (KeepsOthers.setCell _ _ _)).trans (KeepsOthers.setCell _ _ _)).trans (KeepsOthers.setCell _ _ _)).trans (KeepsOthers.setCell _ _ _)).from _, rfl, .inl (by rw [strs_app, strs_one]; simp), ⟨(q0.set _).other n01 _, z1.set _, hI.b.trans ((((k5.setCell (p := ⟨p2, 0, none⟩) g2 _).setCell (p := ⟨p3, 0, none⟩) g3 _).setCell (p := ⟨p0, 0, none⟩) g0 _).setCell (p := ⟨p1, 0, none⟩) g1 _)⟩⟩
    · have he := isEmpty_toList s
      rw [decide_eq_false hE] at he
      have he2 : s.toList.isEmpty = false := by rw [List.isEmpty_eq_false_iff]; intro q; rw [q] at he; cases he
      by_cases h4 : 4096 < pre.length + 1
      · have g4 : decide ((4096 : Int) < (pre.length : Int) + 1) = true := decide_eq_true (by omega)
        gi_wp2_with (gi_at_builtin; refine wpListIn_append_own _ rfl _ _ 22 rfl pb 27 i0 (.string ⟨#[]⟩) 1 16 Tryz.underlying22 hi0 hiz0 hiz1 hiz2 rfl (by decide) _ _ _ rfl (hrow.alloc _) ⟨W.heap.size, 0, none⟩ 1 1 [.string s] rfl rfl (cell_one_new _ _ _) (by simp [Value.oneCell']) (by unfold maxLen; omega) (by omega) (by have := hI.n.lt; have := hp.d3; have := hp.d4; simp; omega) ?_; intro v' w1 hown' hgrow _; obtain ⟨g', cap', rfl⟩ := ownsRow_succ hown'; obtain ⟨k0, k1, k2, k3, k4, k5⟩ := col_app hp hI.r0 hI.r1 hv hI.n hrow hgrow; have d2 := k2.cell; have f2 := k2.frozen; have m0 := k0.other n02 (.slice (some ⟨g', 0, none⟩) (pre.length + 1) cap'); have m1 := k1.other n12 (.slice (some ⟨g', 0, none⟩) (pre.length + 1) cap'); have m2 := k2.set (.slice (some ⟨g', 0, none⟩) (pre.length + 1) cap'); have m3 := k3.other n32 (.slice (some ⟨g', 0, none⟩) (pre.length + 1) cap'); have d3 := m3.cell; have f3 := m3.frozen; have e2 := (m2.other n23 (.int .i64 ((totB (strs pre) : Int) + (s.size : Int)))).cell; have q0 := m0.other n03 (.int .i64 ((totB (strs pre) : Int) + (s.size : Int))); have q0c := q0.cell; have q0f := q0.frozen; have q1 := m1.other n13 (.int .i64 ((totB (strs pre) : Int) + (s.size : Int))); have z1 := q1.other n10 (.string ⟨#[]⟩); have z1c := z1.cell; have z1f := z1.frozen)
        exact ⟨((((k4.trans (KeepsOthers.setCell _ _ _)).trans (KeepsOthers.setCell _ _ _)).trans (KeepsOthers.setCell _ _ _)).trans (KeepsOthers.setCell _ _ _)).from _, rfl, .inr (.inl (by rw [List.length_append]; exact h4)), ⟨(q0.set _).other n01 _, z1.set _, hI.b.trans ((((k5.setCell (p := ⟨p2, 0, none⟩) g2 _).setCell (p := ⟨p3, 0, none⟩) g3 _).setCell (p := ⟨p0, 0, none⟩) g0 _).setCell (p := ⟨p1, 0, none⟩) g1 _)⟩⟩
      · have g4 : decide ((4096 : Int) < (pre.length : Int) + 1) = false := decide_eq_false (by omega)
        by_cases h5 : 131072 < totB (strs pre) + s.size
        · have g5 : decide ((131072 : Int) < (totB (strs pre) : Int) + (s.size : Int)) = true := decide_eq_true (by omega)
          gi_wp2_with (gi_at_builtin; refine wpListIn_append_own _ rfl _ _ 22 rfl pb 27 i0 (.string ⟨#[]⟩) 1 16 Tryz.underlying22 hi0 hiz0 hiz1 hiz2 rfl (by decide) _ _ _ rfl (hrow.alloc _) ⟨W.heap.size, 0, none⟩ 1 1 [.string s] rfl rfl (cell_one_new _ _ _) (by simp [Value.oneCell']) (by unfold maxLen; omega) (by omega) (by have := hI.n.lt; have := hp.d3; have := hp.d4; simp; omega) ?_; intro v' w1 hown' hgrow _; obtain ⟨g', cap', rfl⟩ := ownsRow_succ hown'; obtain ⟨k0, k1, k2, k3, k4, k5⟩ := col_app hp hI.r0 hI.r1 hv hI.n hrow hgrow; have d2 := k2.cell; have f2 := k2.frozen; have m0 := k0.other n02 (.slice (some ⟨g', 0, none⟩) (pre.length + 1) cap'); have m1 := k1.other n12 (.slice (some ⟨g', 0, none⟩) (pre.length + 1) cap'); have m2 := k2.set (.slice (some ⟨g', 0, none⟩) (pre.length + 1) cap'); have m3 := k3.other n32 (.slice (some ⟨g', 0, none⟩) (pre.length + 1) cap'); have d3 := m3.cell; have f3 := m3.frozen; have e2 := (m2.other n23 (.int .i64 ((totB (strs pre) : Int) + (s.size : Int)))).cell; have q0 := m0.other n03 (.int .i64 ((totB (strs pre) : Int) + (s.size : Int))); have q0c := q0.cell; have q0f := q0.frozen; have q1 := m1.other n13 (.int .i64 ((totB (strs pre) : Int) + (s.size : Int))); have z1 := q1.other n10 (.string ⟨#[]⟩); have z1c := z1.cell; have z1f := z1.frozen)
          exact ⟨((((k4.trans (KeepsOthers.setCell _ _ _)).trans (KeepsOthers.setCell _ _ _)).trans (KeepsOthers.setCell _ _ _)).trans (KeepsOthers.setCell _ _ _)).from _, rfl, .inr (.inr (by rw [strs_app, totB_app, strs_one, tot_one]; exact h5)), ⟨(q0.set _).other n01 _, z1.set _, hI.b.trans ((((k5.setCell (p := ⟨p2, 0, none⟩) g2 _).setCell (p := ⟨p3, 0, none⟩) g3 _).setCell (p := ⟨p0, 0, none⟩) g0 _).setCell (p := ⟨p1, 0, none⟩) g1 _)⟩⟩
        · have g5 : decide ((131072 : Int) < (totB (strs pre) : Int) + (s.size : Int)) = false := decide_eq_false (by omega)
          gi_wp2_with (gi_at_builtin; refine wpListIn_append_own _ rfl _ _ 22 rfl pb 27 i0 (.string ⟨#[]⟩) 1 16 Tryz.underlying22 hi0 hiz0 hiz1 hiz2 rfl (by decide) _ _ _ rfl (hrow.alloc _) ⟨W.heap.size, 0, none⟩ 1 1 [.string s] rfl rfl (cell_one_new _ _ _) (by simp [Value.oneCell']) (by unfold maxLen; omega) (by omega) (by have := hI.n.lt; have := hp.d3; have := hp.d4; simp; omega) ?_; intro v' w1 hown' hgrow _; obtain ⟨g', cap', rfl⟩ := ownsRow_succ hown'; obtain ⟨k0, k1, k2, k3, k4, k5⟩ := col_app hp hI.r0 hI.r1 hv hI.n hrow hgrow; have d2 := k2.cell; have f2 := k2.frozen; have m0 := k0.other n02 (.slice (some ⟨g', 0, none⟩) (pre.length + 1) cap'); have m1 := k1.other n12 (.slice (some ⟨g', 0, none⟩) (pre.length + 1) cap'); have m2 := k2.set (.slice (some ⟨g', 0, none⟩) (pre.length + 1) cap'); have m3 := k3.other n32 (.slice (some ⟨g', 0, none⟩) (pre.length + 1) cap'); have d3 := m3.cell; have f3 := m3.frozen; have e2 := (m2.other n23 (.int .i64 ((totB (strs pre) : Int) + (s.size : Int)))).cell; have q0 := m0.other n03 (.int .i64 ((totB (strs pre) : Int) + (s.size : Int))); have q0c := q0.cell; have q0f := q0.frozen; have q1 := m1.other n13 (.int .i64 ((totB (strs pre) : Int) + (s.size : Int))); have z1 := q1.other n10 (.string ⟨#[]⟩); have z1c := z1.cell; have z1f := z1.frozen)
          exact ⟨((k4.trans (KeepsOthers.setCell _ _ _)).trans (KeepsOthers.setCell _ _ _)).from _, (k5.setCell (p := ⟨p2, 0, none⟩) g2 _).setCell (p := ⟨p3, 0, none⟩) g3 _,
            ⟨q0, q1, ⟨_, m2.other n23 _, by rw [List.length_append, strs_app, List.map_append]; exact own_store (own_store hown' l2) l3⟩, by
              rw [strs_app, totB_app, strs_one, tot_one]
              have := m3.set (.int .i64 ((totB (strs pre) : Int) + (s.size : Int)))
              exact this, hI.b.trans ((k5.setCell (p := ⟨p2, 0, none⟩) g2 _).setCell (p := ⟨p3, 0, none⟩) g3 _)⟩,
            by rw [strs_app, strs_one]; intro q; rcases List.mem_append.1 q with q | q; exact hW.1 q; exact hE (List.mem_singleton.1 q).symm, by rw [List.length_append]; show pre.length + 1 ≤ _; omega, by rw [strs_app, totB_app, strs_one, tot_one]; show totB (strs pre) + s.size ≤ _; omega⟩
  case done =>
    rintro D ys W hD rfl ⟨hI, hW⟩ hK
    have hDl := (Array.getElem?_eq_some_iff.1 hK).1
    have hge : w.heap.size ≤ D := by omega
    obtain ⟨v, hv, hrow⟩ := hI.l
    obtain ⟨A2, c2, rfl⟩ := owns_form hrow
    have hc2 := hv.cell
    have HS := pset_any (strs ys) A2 ys.length c2 W (strs_len ys).symm (by have := hW.2.1; omega) (fun s h => by
      obtain ⟨x, _, rfl⟩ := List.mem_map.1 h
      have := x.2; omega) (InC.own hrow)
    rw [set_same] at HS
    change Calls _ _ _ _ fun e w' => e = .returned (.string (setM (strs ys))) ∧ _ at HS
    have hbe := bnd_end hnd hW.1 (by rw [strs_len]; exact hW.2.1)
    by_cases hm : setM (strs ys) = ⟨#[]⟩
    · rw [if_pos hm] at hbe
      rw [hm] at HS
      gi_wp2_with (refine ⟨trivial, ?_⟩; gi_at_call 19; refine (callsIn_wide.2 HS).mono ?_; rintro e W5 ⟨rfl, hb5⟩; have b0 := box_below hI.r0 hb5; have b1 := box_below hI.r1 hb5; have hK5 := (hb5.block D hDl).trans hK; have hB5 := hI.b.trans (hb5.mono hI.b.size); have c0 := b0.cell; have f0 := b0.frozen; have c1 := b1.cell; have f1 := b1.frozen; have z1 := b1.other n10 (.string ⟨#[]⟩); have y1 := z1.cell; have x1 := z1.frozen; have u0 := (b0.set (.string ⟨#[]⟩)).other n01 (.int .i64 9); have u1 := z1.set (.int .i64 9))
      have hK' := ((KeepsOthers.setCell W5 ⟨p0, 0, none⟩ (.string ⟨#[]⟩)).trans (KeepsOthers.setCell _ ⟨p1, 0, none⟩ (.int .i64 9))).same D _ hK5 rfl
      have hBB := (hB5.setCell (p := ⟨p0, 0, none⟩) g0 (.string ⟨#[]⟩)).setCell (p := ⟨p1, 0, none⟩) g1 (.int .i64 9)
      refine ⟨by simp, .inl ⟨_, _, rfl, run_takeDeferred hK', ?_⟩⟩
      have hc0 := cell_kept u0.cell (grownBy_putObj' _ D (.deferred none)) (fun r e => by cases e; exact ⟨_, hK', rfl⟩)
      have hc1 := cell_kept u1.cell (grownBy_putObj' _ D (.deferred none)) (fun r e => by cases e; exact ⟨_, hK', rfl⟩)
      refine ⟨.tuple #[.string ⟨#[]⟩, .int .i64 9], ?_, by rw [hbe], hBB.trans (belowK_b (w := w) (Nat.le_refl _) _ D _ _ hge hK' rfl rfl)⟩
      simp [results, Tryz.f21, go_sem, hc0, hc1]
    · rw [if_neg hm] at hbe
      have he := isEmpty_toList (setM (strs ys))
      rw [decide_eq_false hm] at he
      generalize setM (strs ys) = m at *
      have he2 : m.toList.isEmpty = false := by rw [List.isEmpty_eq_false_iff]; intro q; rw [q] at he; cases he
      gi_wp2_with (refine ⟨trivial, ?_⟩; gi_at_call 19; refine (callsIn_wide.2 HS).mono ?_; rintro e W5 ⟨rfl, hb5⟩; have b0 := box_below hI.r0 hb5; have b1 := box_below hI.r1 hb5; have hK5 := (hb5.block D hDl).trans hK; have hB5 := hI.b.trans (hb5.mono hI.b.size); have c0 := b0.cell; have f0 := b0.frozen; have c1 := b1.cell; have f1 := b1.frozen; have z1 := b1.other n10 (.string m); have y1 := z1.cell; have x1 := z1.frozen; have u0 := (b0.set (.string m)).other n01 (.int .i64 0); have u1 := z1.set (.int .i64 0))
      have hK' := ((KeepsOthers.setCell W5 ⟨p0, 0, none⟩ (.string m)).trans (KeepsOthers.setCell _ ⟨p1, 0, none⟩ (.int .i64 0))).same D _ hK5 rfl
      have hBB := (hB5.setCell (p := ⟨p0, 0, none⟩) g0 (.string m)).setCell (p := ⟨p1, 0, none⟩) g1 (.int .i64 0)
      refine ⟨by simp, .inl ⟨_, _, rfl, run_takeDeferred hK', ?_⟩⟩
      have hc0 := cell_kept u0.cell (grownBy_putObj' _ D (.deferred none)) (fun r e => by cases e; exact ⟨_, hK', rfl⟩)
      have hc1 := cell_kept u1.cell (grownBy_putObj' _ D (.deferred none)) (fun r e => by cases e; exact ⟨_, hK', rfl⟩)
      refine ⟨.tuple #[.string m, .int .i64 0], ?_, by rw [hbe], hBB.trans (belowK_b (w := w) (Nat.le_refl _) _ D _ _ hge hK' rfl rfl)⟩
      simp [results, Tryz.f21, go_sem, hc0, hc1]
  case stop =>
    rintro D c pre W hD hpre ⟨rfl, ho, hX⟩ hK
    have hge : w.heap.size ≤ D := by omega
    have hbo : bnd (strs zs) = (⟨#[]⟩, 9) := bnd_over hnd (by
      rcases over_of hpre ho with h | h | h
      · exact .inl h
      · exact .inr (.inl (by rw [strs_len]; exact h))
      · exact .inr (.inr h))
    gi_wp2
    refine ⟨by simp, .inl ⟨_, _, rfl, run_takeDeferred hK, ?_⟩⟩
    have hc0 := cell_kept hX.r0.cell (grownBy_putObj' _ D (.deferred none)) (fun r e => by cases e; exact ⟨_, hK, rfl⟩)
    have hc1 := cell_kept hX.r1.cell (grownBy_putObj' _ D (.deferred none)) (fun r e => by cases e; exact ⟨_, hK, rfl⟩)
    refine ⟨.tuple #[.string ⟨#[]⟩, .int .i64 9], ?_, by rw [hbo], hX.b.trans (belowK_b (w := w) (Nat.le_refl _) W D _ _ hge hK rfl rfl)⟩
    simp [results, Tryz.f21, go_sem, hc0, hc1]

end Go.Proofs.YtkdlmgahkckjbaaGreat
