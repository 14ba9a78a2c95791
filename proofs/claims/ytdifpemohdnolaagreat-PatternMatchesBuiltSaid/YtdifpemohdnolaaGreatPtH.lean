/- The matcher's split. Conditions: the value has at most 2^48 bytes; the node is permitted and has at most 2^40 children. -/

import Derived.Test.YtdifpemohdnolaaGreatPtG
import Derived.Test.YtdifpemohdnolaaGreatVpI
namespace Go.Proofs.YtdifpemohdnolaaGreat
open Go.RowKit VM

/-- with what the children of a node must match -/
def splitR (c : Cd) (v : ByteArray) : Option (List ByteArray) :=
  if c.1 = 30 ∨ c.1 = 31 then some []
  else if c.1 = 32 then (if v = intB c.2.1 then some [] else none)
  else if c.1 = 33 then (if v = boolB (decide (c.2.1 = 1)) then some [] else none)
  else if c.1 = 34 then exactR 3 c.2.2 v
  else if c.1 = 35 then exactR 4 c.2.2 v
  else if c.1 = 37 then exactR 5 c.2.2 v
  else if c.1 = 36 then aroundR c.2.1.toNat (c.2.2 - 1).toNat v
  else if c.1 = 38 then fieldsR c.2.1 c.2.2 v
  else if c.1 = 40 then some [v, v]
  else none
theorem str_beq (s t : ByteArray) : (s.toList == t.toList) = decide (s = t) := by
  rw [toList_bool, Bool.eq_iff_iff, decide_eq_true_eq, decide_eq_true_eq, eq_comm]
theorem MS.lit {g gm n c : Nat} {p : List Cd} {pA : Option Addr} {w w1 : World} {vv : Value} {vs : List ByteArray} {es : List (ByteArray × Value)} (h : MS g gm p pA n c w vv vs es) (hb : w.heap.size ≤ w1.heap.size) (cs : Array Value) (t : TypeId) :
    PIn (w1.alloc (.cells cs t)) g gm vv (some ⟨w1.heap.size, 0, none⟩) cs.toList := by
  obtain ⟨h1, h2, h3, h4, h5⟩ := h.ne
  rcases new_in w1 t cs with q | ⟨b, off, e, q1, q2⟩
  · exact .inl q
  · injection e with e
    injection e with e1 e2 e3
    subst e1; subst e2
    exact .inr ⟨_, _, rfl, ⟨q1, by omega, by omega, fun e => by have := (h.row.lt _ e.symm).2; omega⟩, q2⟩
section
variable {g gm n c : Nat} {p : List Cd} {pA : Option Addr} {w w' w1 : World} {vv : Value} {vs : List ByteArray} {r : Option (List ByteArray)} {e : Ending}
theorem SpPost.up (hb : Below w.heap.size w w1) (h : SpPost g gm p pA n c vv vs r w1 e w') : SpPost g gm p pA n c vv vs r w e w' := by
  obtain ⟨A, m, d, es', h1, h2, h3, h4⟩ := h
  exact ⟨A, m, d, es', h1, h2, h3, (MStep.below vv hb).trans h4⟩
end
set_option linter.unusedSimpArgs false in
set_option maxRecDepth 100000 in
set_option maxHeartbeats 6400000 in
theorem split_var (g gm : Nat) (p : List Cd) (pA : Option Addr) (n c : Nat) (vv : Value) (vs : List ByteArray) (es : List (ByteArray × Value)) (v : ByteArray) (_hv : v.size ≤ 281474976710656) (num kids : Int) (w : World) (hS : MS g gm p pA n c w vv vs es) :
    Calls Tryz.prog 64 #[.pointer (some ⟨g, 0, none⟩), .agg #[.int .i64 30, .int .i64 num, .int .i64 kids], .string v] w (SpPost g gm p pA n c vv vs (some []) w) := by
  have hb1 : Below w.heap.size w (w.alloc (.cells #[.int .i64 30, .int .i64 num, .int .i64 kids] 27)) := (Below.refl _ w).alloc (Nat.le_refl _) _
  have HB := hide hb1
  have HS := hide (hS.below hb1)
  clear _hv
  clear hb1 hS
  go_enter Tryz.func64, Tryz.ntmps64
  go_wp2_with fail
  go_ret2
  exact ⟨none, 0, 0, es, rfl, fun l hl => (by cases hl; exact ⟨rfl, .inl rfl⟩), unhide HS, .below vv (unhide HB)⟩
set_option linter.unusedSimpArgs false in
set_option maxRecDepth 100000 in
set_option maxHeartbeats 6400000 in
theorem split_wild (g gm : Nat) (p : List Cd) (pA : Option Addr) (n c : Nat) (vv : Value) (vs : List ByteArray) (es : List (ByteArray × Value)) (v : ByteArray) (_hv : v.size ≤ 281474976710656) (num kids : Int) (w : World) (hS : MS g gm p pA n c w vv vs es) :
    Calls Tryz.prog 64 #[.pointer (some ⟨g, 0, none⟩), .agg #[.int .i64 31, .int .i64 num, .int .i64 kids], .string v] w (SpPost g gm p pA n c vv vs (some []) w) := by
  have hb1 : Below w.heap.size w (w.alloc (.cells #[.int .i64 31, .int .i64 num, .int .i64 kids] 27)) := (Below.refl _ w).alloc (Nat.le_refl _) _
  have HB := hide hb1
  have HS := hide (hS.below hb1)
  clear _hv
  clear hb1 hS
  go_enter Tryz.func64, Tryz.ntmps64
  go_wp2_with fail
  go_ret2
  exact ⟨none, 0, 0, es, rfl, fun l hl => (by cases hl; exact ⟨rfl, .inl rfl⟩), unhide HS, .below vv (unhide HB)⟩
set_option linter.unusedSimpArgs false in
set_option maxRecDepth 100000 in
set_option maxHeartbeats 6400000 in
theorem split_int (g gm : Nat) (p : List Cd) (pA : Option Addr) (n c : Nat) (vv : Value) (vs : List ByteArray) (es : List (ByteArray × Value)) (v : ByteArray) (_hv : v.size ≤ 281474976710656) (num kids : Int) (w : World) (hS : MS g gm p pA n c w vv vs es) :
    Calls Tryz.prog 64 #[.pointer (some ⟨g, 0, none⟩), .agg #[.int .i64 32, .int .i64 num, .int .i64 kids], .string v] w (SpPost g gm p pA n c vv vs (if v = intB num then some [] else none) w) := by
  have hb1 : Below w.heap.size w (w.alloc (.cells #[.int .i64 32, .int .i64 num, .int .i64 kids] 27)) := (Below.refl _ w).alloc (Nat.le_refl _) _
  have HB := hide hb1
  have HS := hide (hS.below hb1)
  clear _hv
  have HC := Lib.hid (fun w => pint_any num w)
  obtain ⟨r, hr⟩ : ∃ r, r = (if v = intB num then some ([] : List ByteArray) else none) := ⟨_, rfl⟩
  rw [← hr]
  generalize intB num = s at *
  have HQ : Hid ((v.toList == s.toList) = r.isSome) := Lib.hid (by rw [str_beq, hr]; by_cases q : v = s <;> simp [q])
  have HR : Hid (∀ l, r = some l → l = []) := Lib.hid (by rw [hr]; intro l hl; split at hl <;> cases hl; rfl)
  clear hr
  clear hb1 hS
  go_enter Tryz.func64, Tryz.ntmps64
  go_wp2_with fail
  refine (HC.out _).mono ?_
  rintro e w1 ⟨rfl, hb2⟩
  have HB2 := hide hb2
  clear hb2
  go_wp2_with fail
  go_ret2
  exact ⟨none, 0, 0, es, by rw [← HQ.out]; rfl, fun l hl => (by rw [HR.out l hl]; exact ⟨rfl, .inl rfl⟩), (unhide HS).below (unhide HB2), (MStep.below vv (unhide HB)).trans (.below vv (unhide HB2))⟩
set_option linter.unusedSimpArgs false in
set_option maxRecDepth 100000 in
set_option maxHeartbeats 6400000 in
theorem split_bool (g gm : Nat) (p : List Cd) (pA : Option Addr) (n c : Nat) (vv : Value) (vs : List ByteArray) (es : List (ByteArray × Value)) (v : ByteArray) (_hv : v.size ≤ 281474976710656) (num kids : Int) (w : World) (hS : MS g gm p pA n c w vv vs es) :
    Calls Tryz.prog 64 #[.pointer (some ⟨g, 0, none⟩), .agg #[.int .i64 33, .int .i64 num, .int .i64 kids], .string v] w (SpPost g gm p pA n c vv vs (if v = boolB (decide (num = 1)) then some [] else none) w) := by
  have hb1 : Below w.heap.size w (w.alloc (.cells #[.int .i64 33, .int .i64 num, .int .i64 kids] 27)) := (Below.refl _ w).alloc (Nat.le_refl _) _
  have HB := hide hb1
  have HS := hide (hS.below hb1)
  clear _hv
  have HC := Lib.hid (fun w => pbool_any (decide (num = 1)) w)
  obtain ⟨r, hr⟩ : ∃ r, r = (if v = boolB (decide (num = 1)) then some ([] : List ByteArray) else none) := ⟨_, rfl⟩
  rw [← hr]
  generalize boolB (decide (num = 1)) = s at *
  have HQ : Hid ((v.toList == s.toList) = r.isSome) := Lib.hid (by rw [str_beq, hr]; by_cases q : v = s <;> simp [q])
  have HR : Hid (∀ l, r = some l → l = []) := Lib.hid (by rw [hr]; intro l hl; split at hl <;> cases hl; rfl)
  clear hr
  have hd1 : (num == 1) = decide (num = 1) := by rw [Bool.eq_iff_iff]; simp
  generalize decide (num = 1) = b at *
  clear hb1 hS
  go_enter Tryz.func64, Tryz.ntmps64
  go_wp2_with fail
  refine (HC.out _).mono ?_
  rintro e w1 ⟨rfl, hb2⟩
  have HB2 := hide hb2
  clear hb2
  go_wp2_with fail
  go_ret2
  exact ⟨none, 0, 0, es, by rw [← HQ.out]; rfl, fun l hl => (by rw [HR.out l hl]; exact ⟨rfl, .inl rfl⟩), (unhide HS).below (unhide HB2), (MStep.below vv (unhide HB)).trans (.below vv (unhide HB2))⟩
set_option linter.unusedSimpArgs false in
set_option maxRecDepth 100000 in
set_option maxHeartbeats 6400000 in
theorem split_tuple (g gm : Nat) (p : List Cd) (pA : Option Addr) (n c : Nat) (vv : Value) (vs : List ByteArray) (es : List (ByteArray × Value)) (v : ByteArray) (_hv : v.size ≤ 281474976710656) (num kids : Int) (w : World) (hS : MS g gm p pA n c w vv vs es) :
    Calls Tryz.prog 64 #[.pointer (some ⟨g, 0, none⟩), .agg #[.int .i64 34, .int .i64 num, .int .i64 kids], .string v] w (SpPost g gm p pA n c vv vs (exactR 3 kids v) w) := by
  have hb1 : Below w.heap.size w (w.alloc (.cells #[.int .i64 34, .int .i64 num, .int .i64 kids] 27)) := (Below.refl _ w).alloc (Nat.le_refl _) _
  have HB := hide hb1
  have HS := hide (hS.below hb1)
  have HO := hide (exactly_any g gm p pA n c vv vs es v _hv 3 kids _ (unhide HS))
  generalize exactR 3 kids v = r at *
  clear _hv
  clear hb1 hS
  go_enter Tryz.func64, Tryz.ntmps64
  go_wp2_with fail
  refine (unhide HO).mono ?_
  rintro e w1 ⟨A, m, d, es', rfl, hl, hS1, hst⟩
  have HX := hide (And.intro hl (And.intro hS1 ((MStep.below vv (unhide HB)).trans hst)))
  clear hl hS1 hst HO
  generalize hq : r.isSome = rb at *
  have HQ := Lib.hid hq
  clear hq
  go_wp2_with fail
  go_ret2
  exact ⟨A, m, d, es', by rw [HQ.out]; rfl, (unhide HX).1, (unhide HX).2.1, (unhide HX).2.2⟩
set_option linter.unusedSimpArgs false in
set_option maxRecDepth 100000 in
set_option maxHeartbeats 6400000 in
theorem split_seq (g gm : Nat) (p : List Cd) (pA : Option Addr) (n c : Nat) (vv : Value) (vs : List ByteArray) (es : List (ByteArray × Value)) (v : ByteArray) (_hv : v.size ≤ 281474976710656) (num kids : Int) (w : World) (hS : MS g gm p pA n c w vv vs es) :
    Calls Tryz.prog 64 #[.pointer (some ⟨g, 0, none⟩), .agg #[.int .i64 35, .int .i64 num, .int .i64 kids], .string v] w (SpPost g gm p pA n c vv vs (exactR 4 kids v) w) := by
  have hb1 : Below w.heap.size w (w.alloc (.cells #[.int .i64 35, .int .i64 num, .int .i64 kids] 27)) := (Below.refl _ w).alloc (Nat.le_refl _) _
  have HB := hide hb1
  have HS := hide (hS.below hb1)
  have HO := hide (exactly_any g gm p pA n c vv vs es v _hv 4 kids _ (unhide HS))
  generalize exactR 4 kids v = r at *
  clear _hv
  clear hb1 hS
  go_enter Tryz.func64, Tryz.ntmps64
  go_wp2_with fail
  refine (unhide HO).mono ?_
  rintro e w1 ⟨A, m, d, es', rfl, hl, hS1, hst⟩
  have HX := hide (And.intro hl (And.intro hS1 ((MStep.below vv (unhide HB)).trans hst)))
  clear hl hS1 hst HO
  generalize hq : r.isSome = rb at *
  have HQ := Lib.hid hq
  clear hq
  go_wp2_with fail
  go_ret2
  exact ⟨A, m, d, es', by rw [HQ.out]; rfl, (unhide HX).1, (unhide HX).2.1, (unhide HX).2.2⟩
set_option linter.unusedSimpArgs false in
set_option maxRecDepth 100000 in
set_option maxHeartbeats 6400000 in
theorem split_set (g gm : Nat) (p : List Cd) (pA : Option Addr) (n c : Nat) (vv : Value) (vs : List ByteArray) (es : List (ByteArray × Value)) (v : ByteArray) (_hv : v.size ≤ 281474976710656) (num kids : Int) (w : World) (hS : MS g gm p pA n c w vv vs es) :
    Calls Tryz.prog 64 #[.pointer (some ⟨g, 0, none⟩), .agg #[.int .i64 37, .int .i64 num, .int .i64 kids], .string v] w (SpPost g gm p pA n c vv vs (exactR 5 kids v) w) := by
  have hb1 : Below w.heap.size w (w.alloc (.cells #[.int .i64 37, .int .i64 num, .int .i64 kids] 27)) := (Below.refl _ w).alloc (Nat.le_refl _) _
  have HB := hide hb1
  have HS := hide (hS.below hb1)
  have HO := hide (exactly_any g gm p pA n c vv vs es v _hv 5 kids _ (unhide HS))
  generalize exactR 5 kids v = r at *
  clear _hv
  clear hb1 hS
  go_enter Tryz.func64, Tryz.ntmps64
  go_wp2_with fail
  refine (unhide HO).mono ?_
  rintro e w1 ⟨A, m, d, es', rfl, hl, hS1, hst⟩
  have HX := hide (And.intro hl (And.intro hS1 ((MStep.below vv (unhide HB)).trans hst)))
  clear hl hS1 hst HO
  generalize hq : r.isSome = rb at *
  have HQ := Lib.hid hq
  clear hq
  go_wp2_with fail
  go_ret2
  exact ⟨A, m, d, es', by rw [HQ.out]; rfl, (unhide HX).1, (unhide HX).2.1, (unhide HX).2.2⟩
set_option linter.unusedSimpArgs false in
set_option maxRecDepth 100000 in
set_option maxHeartbeats 6400000 in
theorem split_dot (g gm : Nat) (p : List Cd) (pA : Option Addr) (n c : Nat) (vv : Value) (vs : List ByteArray) (es : List (ByteArray × Value)) (v : ByteArray) (_hv : v.size ≤ 281474976710656) (num kids : Int) (w : World) (hS : MS g gm p pA n c w vv vs es) :
    Calls Tryz.prog 64 #[.pointer (some ⟨g, 0, none⟩), .agg #[.int .i64 38, .int .i64 num, .int .i64 kids], .string v] w (SpPost g gm p pA n c vv vs (fieldsR num kids v) w) := by
  have hb1 : Below w.heap.size w (w.alloc (.cells #[.int .i64 38, .int .i64 num, .int .i64 kids] 27)) := (Below.refl _ w).alloc (Nat.le_refl _) _
  have HB := hide hb1
  have HS := hide (hS.below hb1)
  have HO := hide (fields_any g gm p pA n c vv vs es v _hv 38 num kids _ (unhide HS))
  generalize fieldsR num kids v = r at *
  clear _hv
  clear hb1 hS
  go_enter Tryz.func64, Tryz.ntmps64
  go_wp2_with fail
  refine (unhide HO).mono ?_
  rintro e w1 ⟨A, m, d, es', rfl, hl, hS1, hst⟩
  have HX := hide (And.intro hl (And.intro hS1 ((MStep.below vv (unhide HB)).trans hst)))
  clear hl hS1 hst HO
  generalize hq : r.isSome = rb at *
  have HQ := Lib.hid hq
  clear hq
  go_wp2_with fail
  go_ret2
  exact ⟨A, m, d, es', by rw [HQ.out]; rfl, (unhide HX).1, (unhide HX).2.1, (unhide HX).2.2⟩
set_option linter.unusedSimpArgs false in
set_option maxRecDepth 100000 in
set_option maxHeartbeats 6400000 in
theorem split_cat (g gm : Nat) (p : List Cd) (pA : Option Addr) (n c : Nat) (vv : Value) (vs : List ByteArray) (es : List (ByteArray × Value)) (v : ByteArray) (_hv : v.size ≤ 281474976710656) (num kids : Int) (h0 : 0 ≤ num) (h1 : num < kids) (h2 : kids ≤ 1099511627776) (w : World) (hS : MS g gm p pA n c w vv vs es) :
    Calls Tryz.prog 64 #[.pointer (some ⟨g, 0, none⟩), .agg #[.int .i64 36, .int .i64 num, .int .i64 kids], .string v] w (SpPost g gm p pA n c vv vs (aroundR num.toNat (kids - 1).toNat v) w) := by
  have hb1 : Below w.heap.size w (w.alloc (.cells #[.int .i64 36, .int .i64 num, .int .i64 kids] 27)) := (Below.refl _ w).alloc (Nat.le_refl _) _
  have HB := hide hb1
  have HS := hide (hS.below hb1)
  obtain ⟨fi, rfl⟩ : ∃ fi : Nat, num = (fi : Int) := ⟨num.toNat, by omega⟩
  obtain ⟨nk, rfl⟩ : ∃ nk : Nat, kids = (nk : Int) + 1 := ⟨(kids - 1).toNat, by omega⟩
  have HO := hide (around_any g gm p pA n c vv vs es v _hv fi nk (by omega) (by omega) _ (unhide HS))
  have e1 : (fi : Int).toNat = fi := Int.toNat_natCast fi
  have e2 : ((nk : Int) + 1 - 1).toNat = nk := by omega
  rw [e1, e2]
  have e3 : wrap64 ((nk : Int) + 1 - 1) = (nk : Int) := by rw [show (nk : Int) + 1 - 1 = (nk : Int) by omega]; exact IntWalk.wrap64_in _ (by omega)
  have e4 : (nk : Int) + 1 - 1 = (nk : Int) := by omega
  generalize aroundR fi nk v = r at *
  clear _hv e1 e2
  clear hb1 hS
  go_enter Tryz.func64, Tryz.ntmps64
  go_wp2_with fail
  refine (unhide HO).mono ?_
  rintro e w1 ⟨A, m, d, es', rfl, hl, hS1, hst⟩
  have HX := hide (And.intro hl (And.intro hS1 ((MStep.below vv (unhide HB)).trans hst)))
  clear hl hS1 hst HO
  generalize hq : r.isSome = rb at *
  have HQ := Lib.hid hq
  clear hq
  go_wp2_with fail
  go_ret2
  exact ⟨A, m, d, es', by rw [HQ.out]; rfl, (unhide HX).1, (unhide HX).2.1, (unhide HX).2.2⟩
set_option linter.unusedSimpArgs false in
set_option maxRecDepth 100000 in
set_option maxHeartbeats 6400000 in
theorem split_both (g gm : Nat) (p : List Cd) (pA : Option Addr) (n c : Nat) (vv : Value) (vs : List ByteArray) (es : List (ByteArray × Value)) (v : ByteArray) (_hv : v.size ≤ 281474976710656) (num kids : Int) (w : World) (hS : MS g gm p pA n c w vv vs es) :
    Calls Tryz.prog 64 #[.pointer (some ⟨g, 0, none⟩), .agg #[.int .i64 40, .int .i64 num, .int .i64 kids], .string v] w (SpPost g gm p pA n c vv vs (some [v, v]) w) := by
  have hb1 : Below w.heap.size w (w.alloc (.cells #[.int .i64 40, .int .i64 num, .int .i64 kids] 27)) := (Below.refl _ w).alloc (Nat.le_refl _) _
  have HB := hide hb1
  have HS := hide (hS.below hb1)
  clear _hv
  clear hb1 hS
  go_enter Tryz.func64, Tryz.ntmps64
  go_wp2_with fail
  go_ret2
  have q := (unhide HS).lit (Nat.le_refl _) #[.string v, .string v] 23
  have e1 : (w.alloc (.cells #[.int .i64 40, .int .i64 num, .int .i64 kids] 27)).heap.size = w.heap.size + 1 := by simp
  rw [e1] at q
  exact ⟨_, 2, 2, es, rfl, fun l hl => (by cases hl; exact ⟨rfl, q⟩), (unhide HS).below ((Below.refl _ _).alloc (Nat.le_refl _) _), (MStep.below vv (unhide HB)).trans (.below vv ((Below.refl _ _).alloc (Nat.le_refl _) _))⟩
set_option linter.unusedSimpArgs false in
set_option maxRecDepth 100000 in
set_option maxHeartbeats 6400000 in
theorem split_pair (g gm : Nat) (p : List Cd) (pA : Option Addr) (n c : Nat) (vv : Value) (vs : List ByteArray) (es : List (ByteArray × Value)) (v : ByteArray) (_hv : v.size ≤ 281474976710656) (num kids : Int) (w : World) (hS : MS g gm p pA n c w vv vs es) :
    Calls Tryz.prog 64 #[.pointer (some ⟨g, 0, none⟩), .agg #[.int .i64 39, .int .i64 num, .int .i64 kids], .string v] w (SpPost g gm p pA n c vv vs (none) w) := by
  have hb1 : Below w.heap.size w (w.alloc (.cells #[.int .i64 39, .int .i64 num, .int .i64 kids] 27)) := (Below.refl _ w).alloc (Nat.le_refl _) _
  have HB := hide hb1
  have HS := hide (hS.below hb1)
  clear _hv
  clear hb1 hS
  go_enter Tryz.func64, Tryz.ntmps64
  go_wp2_with fail
  go_ret2
  exact ⟨none, 0, 0, es, rfl, fun l hl => (by cases hl), unhide HS, .below vv (unhide HB)⟩
theorem split_any (g gm : Nat) (p : List Cd) (pA : Option Addr) (n c : Nat) (vv : Value) (vs : List ByteArray) (es : List (ByteArray × Value)) (v : ByteArray) (hv : v.size ≤ 281474976710656) (x : Cd) (hp : permL x = true) (hk : x.2.2 ≤ 1099511627776) (w : World) (hS : MS g gm p pA n c w vv vs es) :
    Calls Tryz.prog 64 #[.pointer (some ⟨g, 0, none⟩), .agg #[.int .i64 x.1, .int .i64 x.2.1, .int .i64 x.2.2], .string v] w (SpPost g gm p pA n c vv vs (splitR x v) w) := by
  obtain ⟨k, num, kids⟩ := x
  rcases ops11 k with rfl | rfl | rfl | rfl | rfl | rfl | rfl | rfl | rfl | rfl | rfl | hk'
  · exact split_var g gm p pA n c vv vs es v hv num kids w hS
  · exact split_wild g gm p pA n c vv vs es v hv num kids w hS
  · exact split_int g gm p pA n c vv vs es v hv num kids w hS
  · exact split_bool g gm p pA n c vv vs es v hv num kids w hS
  · exact split_tuple g gm p pA n c vv vs es v hv num kids w hS
  · exact split_seq g gm p pA n c vv vs es v hv num kids w hS
  · have h : decide (0 ≤ num ∧ num < kids) = true := hp
    have h := of_decide_eq_true h
    exact split_cat g gm p pA n c vv vs es v hv num kids h.1 h.2 hk w hS
  · exact split_set g gm p pA n c vv vs es v hv num kids w hS
  · exact split_dot g gm p pA n c vv vs es v hv num kids w hS
  · exact split_pair g gm p pA n c vv vs es v hv num kids w hS
  · exact split_both g gm p pA n c vv vs es v hv num kids w hS
  · exfalso
    unfold permL at hp
    simp only at hp
    rw [if_neg (by omega), if_neg (by omega), if_neg (by omega), if_neg (by omega), if_neg (by omega), if_neg (by omega), if_neg (by omega), if_neg (by omega), if_neg (by omega)] at hp
    cases hp

end Go.Proofs.YtdifpemohdnolaaGreat
