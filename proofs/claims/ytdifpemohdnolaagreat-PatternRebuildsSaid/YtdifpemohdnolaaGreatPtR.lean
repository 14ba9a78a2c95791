/- join. Conditions: at most 8192 values of at most 2^48 bytes; a PatCat's rest is one of them. -/

import Derived.Test.YtdifpemohdnolaaGreatPtQ
namespace Go.Proofs.YtdifpemohdnolaaGreat
open Go.RowKit VM

/-- the value of a pattern whose children have the values l -/
def joinR (c : Cd) (l : List ByteArray) : ByteArray :=
  if c.1 = 32 then intB c.2.1
  else if c.1 = 33 then boolB (decide (c.2.1 = 1))
  else if c.1 = 34 then tupP l
  else if c.1 = 35 then mkP 4 l
  else if c.1 = 37 then mkP 5 (sortM l)
  else if c.1 = 38 then dotP c.2.1 l
  else if c.1 = 36 then insertR l c.2.1.toNat
  else ⟨#[]⟩
set_option linter.unusedSimpArgs false in
set_option maxRecDepth 100000 in
set_option maxHeartbeats 6400000 in
theorem join_int (l : List ByteArray) (A : Option Addr) (m d : Nat) (num kids : Int) (w : World) (_hm : m = l.length) (_hm8 : m ≤ 8192) (_hmd : m ≤ d) (_hs : ∀ s ∈ l, s.size ≤ 281474976710656) (_hA : InC w A (l.map Value.string)) :
    Calls Tryz.prog 57 #[.agg #[.int .i64 32, .int .i64 num, .int .i64 kids], .slice A m d] w fun e w' => e = .returned (.string (intB num)) ∧ Below w.heap.size w w' := by
  have HB := hide ((Below.refl w.heap.size w).alloc (Nat.le_refl _) (.cells #[.int .i64 32, .int .i64 num, .int .i64 kids] 27))
  have HC := Lib.hid (pint_any num (w.alloc (.cells #[.int .i64 32, .int .i64 num, .int .i64 kids] 27)))
  generalize intB num = r at *
  clear _hm _hmd _hs _hA
  go_enter Tryz.func57, Tryz.ntmps57
  go_wp2_with fail
  refine HC.out.mono ?_
  rintro e w1 ⟨rfl, hb1⟩
  have HB1 := hide ((unhide HB).trans (hb1.mono (unhide HB).size))
  clear hb1 HC
  go_wp2_with fail
  go_ret
  exact ⟨rfl, unhide HB1⟩
set_option linter.unusedSimpArgs false in
set_option maxRecDepth 100000 in
set_option maxHeartbeats 6400000 in
theorem join_bool (l : List ByteArray) (A : Option Addr) (m d : Nat) (num kids : Int) (w : World) (_hm : m = l.length) (_hm8 : m ≤ 8192) (_hmd : m ≤ d) (_hs : ∀ s ∈ l, s.size ≤ 281474976710656) (_hA : InC w A (l.map Value.string)) :
    Calls Tryz.prog 57 #[.agg #[.int .i64 33, .int .i64 num, .int .i64 kids], .slice A m d] w fun e w' => e = .returned (.string (boolB (decide (num = 1)))) ∧ Below w.heap.size w w' := by
  have HB := hide ((Below.refl w.heap.size w).alloc (Nat.le_refl _) (.cells #[.int .i64 33, .int .i64 num, .int .i64 kids] 27))
  have HC := Lib.hid (pbool_any (decide (num = 1)) (w.alloc (.cells #[.int .i64 33, .int .i64 num, .int .i64 kids] 27)))
  have hd1 : (num == 1) = decide (num = 1) := by rw [Bool.eq_iff_iff]; simp
  generalize decide (num = 1) = b at *
  generalize boolB b = r at *
  clear _hm _hmd _hs _hA
  go_enter Tryz.func57, Tryz.ntmps57
  go_wp2_with fail
  refine HC.out.mono ?_
  rintro e w1 ⟨rfl, hb1⟩
  have HB1 := hide ((unhide HB).trans (hb1.mono (unhide HB).size))
  clear hb1 HC
  go_wp2_with fail
  go_ret
  exact ⟨rfl, unhide HB1⟩
set_option linter.unusedSimpArgs false in
set_option maxRecDepth 100000 in
set_option maxHeartbeats 6400000 in
theorem join_tuple (l : List ByteArray) (A : Option Addr) (m d : Nat) (num kids : Int) (w : World) (_hm : m = l.length) (_hm8 : m ≤ 8192) (_hmd : m ≤ d) (_hs : ∀ s ∈ l, s.size ≤ 281474976710656) (_hA : InC w A (l.map Value.string)) :
    Calls Tryz.prog 57 #[.agg #[.int .i64 34, .int .i64 num, .int .i64 kids], .slice A m d] w fun e w' => e = .returned (.string (tupP l)) ∧ Below w.heap.size w w' := by
  have HB := hide ((Below.refl w.heap.size w).alloc (Nat.le_refl _) (.cells #[.int .i64 34, .int .i64 num, .int .i64 kids] 27))
  have HC := Lib.hid (ptuple_any l A m d (w.alloc (.cells #[.int .i64 34, .int .i64 num, .int .i64 kids] 27)) _hm (by omega) _hs (_hA.alloc _))
  generalize tupP l = r at *
  clear _hm _hmd _hs _hA
  go_enter Tryz.func57, Tryz.ntmps57
  go_wp2_with fail
  refine HC.out.mono ?_
  rintro e w1 ⟨rfl, hb1⟩
  have HB1 := hide ((unhide HB).trans (hb1.mono (unhide HB).size))
  clear hb1 HC
  go_wp2_with fail
  go_ret
  exact ⟨rfl, unhide HB1⟩
set_option linter.unusedSimpArgs false in
set_option maxRecDepth 100000 in
set_option maxHeartbeats 6400000 in
theorem join_seq (l : List ByteArray) (A : Option Addr) (m d : Nat) (num kids : Int) (w : World) (_hm : m = l.length) (_hm8 : m ≤ 8192) (_hmd : m ≤ d) (_hs : ∀ s ∈ l, s.size ≤ 281474976710656) (_hA : InC w A (l.map Value.string)) :
    Calls Tryz.prog 57 #[.agg #[.int .i64 35, .int .i64 num, .int .i64 kids], .slice A m d] w fun e w' => e = .returned (.string (mkP 4 l)) ∧ Below w.heap.size w w' := by
  have HB := hide ((Below.refl w.heap.size w).alloc (Nat.le_refl _) (.cells #[.int .i64 35, .int .i64 num, .int .i64 kids] 27))
  have HC := Lib.hid (pseq_any l A m d (w.alloc (.cells #[.int .i64 35, .int .i64 num, .int .i64 kids] 27)) _hm (by omega) _hs (_hA.alloc _))
  generalize mkP 4 l = r at *
  clear _hm _hmd _hs _hA
  go_enter Tryz.func57, Tryz.ntmps57
  go_wp2_with fail
  refine HC.out.mono ?_
  rintro e w1 ⟨rfl, hb1⟩
  have HB1 := hide ((unhide HB).trans (hb1.mono (unhide HB).size))
  clear hb1 HC
  go_wp2_with fail
  go_ret
  exact ⟨rfl, unhide HB1⟩
set_option linter.unusedSimpArgs false in
set_option maxRecDepth 100000 in
set_option maxHeartbeats 6400000 in
theorem join_set (l : List ByteArray) (A : Option Addr) (m d : Nat) (num kids : Int) (w : World) (_hm : m = l.length) (_hm8 : m ≤ 8192) (_hmd : m ≤ d) (_hs : ∀ s ∈ l, s.size ≤ 281474976710656) (_hA : InC w A (l.map Value.string)) :
    Calls Tryz.prog 57 #[.agg #[.int .i64 37, .int .i64 num, .int .i64 kids], .slice A m d] w fun e w' => e = .returned (.string (mkP 5 (sortM l))) ∧ Below w.heap.size w w' := by
  have HB := hide ((Below.refl w.heap.size w).alloc (Nat.le_refl _) (.cells #[.int .i64 37, .int .i64 num, .int .i64 kids] 27))
  have HC := Lib.hid (pset_any l A m d (w.alloc (.cells #[.int .i64 37, .int .i64 num, .int .i64 kids] 27)) _hm (by omega) _hs (_hA.alloc _))
  generalize mkP 5 (sortM l) = r at *
  clear _hm _hmd _hs _hA
  go_enter Tryz.func57, Tryz.ntmps57
  go_wp2_with fail
  refine HC.out.mono ?_
  rintro e w1 ⟨rfl, hb1⟩
  have HB1 := hide ((unhide HB).trans (hb1.mono (unhide HB).size))
  clear hb1 HC
  go_wp2_with fail
  go_ret
  exact ⟨rfl, unhide HB1⟩
set_option linter.unusedSimpArgs false in
set_option maxRecDepth 100000 in
set_option maxHeartbeats 6400000 in
theorem join_dot (l : List ByteArray) (A : Option Addr) (m d : Nat) (num kids : Int) (w : World) (_hm : m = l.length) (_hm8 : m ≤ 8192) (_hmd : m ≤ d) (_hs : ∀ s ∈ l, s.size ≤ 281474976710656) (_hA : InC w A (l.map Value.string)) :
    Calls Tryz.prog 57 #[.agg #[.int .i64 38, .int .i64 num, .int .i64 kids], .slice A m d] w fun e w' => e = .returned (.string (dotP num l)) ∧ Below w.heap.size w w' := by
  have HB := hide ((Below.refl w.heap.size w).alloc (Nat.le_refl _) (.cells #[.int .i64 38, .int .i64 num, .int .i64 kids] 27))
  have HC := Lib.hid (pdotI_any num l A m d (w.alloc (.cells #[.int .i64 38, .int .i64 num, .int .i64 kids] 27)) _hm (by omega) _hs (_hA.alloc _))
  generalize dotP num l = r at *
  clear _hm _hmd _hs _hA
  go_enter Tryz.func57, Tryz.ntmps57
  go_wp2_with fail
  refine HC.out.mono ?_
  rintro e w1 ⟨rfl, hb1⟩
  have HB1 := hide ((unhide HB).trans (hb1.mono (unhide HB).size))
  clear hb1 HC
  go_wp2_with fail
  go_ret
  exact ⟨rfl, unhide HB1⟩
set_option linter.unusedSimpArgs false in
set_option maxRecDepth 100000 in
set_option maxHeartbeats 6400000 in
theorem join_cat (l : List ByteArray) (A : Option Addr) (m d : Nat) (num kids : Int) (h0 : 0 ≤ num) (h1 : num < (l.length : Int)) (w : World) (_hm : m = l.length) (_hm8 : m ≤ 8192) (_hmd : m ≤ d) (_hs : ∀ s ∈ l, s.size ≤ 281474976710656) (_hA : InC w A (l.map Value.string)) :
    Calls Tryz.prog 57 #[.agg #[.int .i64 36, .int .i64 num, .int .i64 kids], .slice A m d] w fun e w' => e = .returned (.string (insertR l num.toNat)) ∧ Below w.heap.size w w' := by
  have HB := hide ((Below.refl w.heap.size w).alloc (Nat.le_refl _) (.cells #[.int .i64 36, .int .i64 num, .int .i64 kids] 27))
  obtain ⟨j, rfl⟩ : ∃ j : Nat, num = (j : Int) := ⟨num.toNat, by omega⟩
  rw [Int.toNat_natCast]
  have HC := Lib.hid (insert_any l A m d j (w.alloc (.cells #[.int .i64 36, .int .i64 (j : Int), .int .i64 kids] 27)) _hm _hm8 _hmd (by omega) _hs (_hA.alloc _))
  generalize insertR l j = r at *
  clear h1
  clear _hm _hmd _hs _hA
  go_enter Tryz.func57, Tryz.ntmps57
  go_wp2_with fail
  refine HC.out.mono ?_
  rintro e w1 ⟨rfl, hb1⟩
  have HB1 := hide ((unhide HB).trans (hb1.mono (unhide HB).size))
  clear hb1 HC
  go_wp2_with fail
  go_ret
  exact ⟨rfl, unhide HB1⟩
set_option linter.unusedSimpArgs false in
set_option maxRecDepth 100000 in
set_option maxHeartbeats 6400000 in
theorem join_none (l : List ByteArray) (A : Option Addr) (m d : Nat) (k : Int) (num kids : Int) (hk : k < 32 ∨ 38 < k) (w : World) (_hm : m = l.length) (_hm8 : m ≤ 8192) (_hmd : m ≤ d) (_hs : ∀ s ∈ l, s.size ≤ 281474976710656) (_hA : InC w A (l.map Value.string)) :
    Calls Tryz.prog 57 #[.agg #[.int .i64 k, .int .i64 num, .int .i64 kids], .slice A m d] w fun e w' => e = .returned (.string (⟨#[]⟩)) ∧ Below w.heap.size w w' := by
  have HB := hide ((Below.refl w.heap.size w).alloc (Nat.le_refl _) (.cells #[.int .i64 k, .int .i64 num, .int .i64 kids] 27))
  have g2 : (k == 32) = false := beq_eq_false_iff_ne.2 (by omega)
  have g3 : (k == 33) = false := beq_eq_false_iff_ne.2 (by omega)
  have g4 : (k == 34) = false := beq_eq_false_iff_ne.2 (by omega)
  have g5 : (k == 35) = false := beq_eq_false_iff_ne.2 (by omega)
  have g6 : (k == 36) = false := beq_eq_false_iff_ne.2 (by omega)
  have g7 : (k == 37) = false := beq_eq_false_iff_ne.2 (by omega)
  have g8 : (k == 38) = false := beq_eq_false_iff_ne.2 (by omega)
  clear hk
  clear _hm _hmd _hs _hA
  go_enter Tryz.func57, Tryz.ntmps57
  go_wp2_with fail
  go_ret
  exact ⟨rfl, unhide HB⟩
theorem join_any (c : Cd) (l : List ByteArray) (A : Option Addr) (m d : Nat) (w : World) (hp : c.1 = 36 → 0 ≤ c.2.1 ∧ c.2.1 < (l.length : Int)) (hm : m = l.length) (hm8 : m ≤ 8192) (hmd : m ≤ d) (hs : ∀ s ∈ l, s.size ≤ 281474976710656) (hA : InC w A (l.map Value.string)) :
    Calls Tryz.prog 57 #[.agg #[.int .i64 c.1, .int .i64 c.2.1, .int .i64 c.2.2], .slice A m d] w fun e w' => e = .returned (.string (joinR c l)) ∧ Below w.heap.size w w' := by
  obtain ⟨k, num, kids⟩ := c
  unfold joinR
  simp only at hp ⊢
  by_cases h1 : k = 32
  · subst h1; exact join_int l A m d num kids w hm hm8 hmd hs hA
  rw [if_neg h1]
  by_cases h2 : k = 33
  · subst h2; exact join_bool l A m d num kids w hm hm8 hmd hs hA
  rw [if_neg h2]
  by_cases h3 : k = 34
  · subst h3; exact join_tuple l A m d num kids w hm hm8 hmd hs hA
  rw [if_neg h3]
  by_cases h4 : k = 35
  · subst h4; exact join_seq l A m d num kids w hm hm8 hmd hs hA
  rw [if_neg h4]
  by_cases h5 : k = 37
  · subst h5; exact join_set l A m d num kids w hm hm8 hmd hs hA
  rw [if_neg h5]
  by_cases h6 : k = 38
  · subst h6; exact join_dot l A m d num kids w hm hm8 hmd hs hA
  rw [if_neg h6]
  by_cases h7 : k = 36
  · subst h7; exact join_cat l A m d num kids (hp rfl).1 (hp rfl).2 w hm hm8 hmd hs hA
  rw [if_neg h7]
  exact join_none l A m d k num kids (by omega) w hm hm8 hmd hs hA

end Go.Proofs.YtdifpemohdnolaaGreat
