/- The texts of values; the program's brackets, separator and AppendBool, AppendInt on rows of a call's own. Conditions: the row is short; the table of powers of ten is as the text lays it. -/
import Derived.Test.YtaambeficfiacaaGreatDoorVgC
import Derived.Test.YtaambeficfiacaaGreatDoorVxD
import Derived.Test.YtaambeficfiacaaGreatDoorShT
namespace Go.Proofs.YtaambeficfiacaaGreatDoor
open Go.RowKit VM

/-! the model -/
def opnT (k : UInt8) : List UInt8 := if k = 3 then [40] else if k = 4 then [60] else if k = 5 then [123] else if k = 6 then [40, 124] else if k = 8 then [102, 117, 110, 40] else if k = 9 then [112, 114, 111, 99, 40] else []
def clsT (k : UInt8) : List UInt8 := if k = 3 then [41] else if k = 4 then [62] else if k = 5 then [125] else if k = 6 then [124, 41] else if k = 8 then [41] else if k = 9 then [41] else []
def sepT (k : UInt8) (i : Nat) : List UInt8 := if k = 7 then [46] else if k = 6 ∧ i % 2 = 1 then [32, 61, 62, 32] else [44, 32]
def nameT (ns : List ByteArray) (n : Nat) : List UInt8 := match ns[n]? with
  | some s => bs s
  | none => 63 :: Go.Lib.itoa (n : Int)
def boolT (b : Bool) : List UInt8 := if b = true then [116, 114, 117, 101] else [102, 97, 108, 115, 101]
mutual
def textV (ns : List ByteArray) : V → List UInt8
  | .int l => Go.Lib.itoa (numL l)
  | .bool b => boolT (decide (b = 1))
  | .name a b => nameT ns (a.toNat * 256 + b.toNat)
  | .comp k l => opnT k ++ textsV ns k 0 l ++ clsT k
def textsV (ns : List ByteArray) (k : UInt8) : Nat → List V → List UInt8
  | _, [] => []
  | i, v :: r => (if i = 0 then [] else sepT k i) ++ textV ns v ++ textsV ns k (i + 1) r
end
theorem one_u8 (z : Int) : ∀ x ∈ [Value.int .u8 z], x.oneCell' = true := by intro x hx; simp at hx; rw [hx]; rfl
def toS (l : List UInt8) : ByteArray := ⟨l.toArray⟩
set_option maxRecDepth 100000 in
set_option maxHeartbeats 1600000 in
theorem brackets_any (k : UInt8) (w : World) : Calls Tryz.prog 50 #[.int .i64 (k.toNat : Int)] w fun e w' => e = .returned (.tuple #[.string (toS (opnT k)), .string (toS (clsT k))]) ∧ w = w' := by
  by_cases h3 : k = 3
  · subst h3
    go_enter Tryz.func50, Tryz.ntmps50
    go_wp2_with fail
    go_ret2
    exact ⟨rfl, rfl⟩
  by_cases h4 : k = 4
  · subst h4
    go_enter Tryz.func50, Tryz.ntmps50
    go_wp2_with fail
    go_ret2
    exact ⟨rfl, rfl⟩
  by_cases h5 : k = 5
  · subst h5
    go_enter Tryz.func50, Tryz.ntmps50
    go_wp2_with fail
    go_ret2
    exact ⟨rfl, rfl⟩
  by_cases h6 : k = 6
  · subst h6
    go_enter Tryz.func50, Tryz.ntmps50
    go_wp2_with fail
    go_ret2
    exact ⟨rfl, rfl⟩
  by_cases h8 : k = 8
  · subst h8
    go_enter Tryz.func50, Tryz.ntmps50
    go_wp2_with fail
    go_ret2
    exact ⟨rfl, rfl⟩
  by_cases h9 : k = 9
  · subst h9
    go_enter Tryz.func50, Tryz.ntmps50
    go_wp2_with fail
    go_ret2
    exact ⟨rfl, rfl⟩
  have ho : opnT k = [] := by unfold opnT; rw [if_neg h3, if_neg h4, if_neg h5, if_neg h6, if_neg h8, if_neg h9]
  have hc : clsT k = [] := by unfold clsT; rw [if_neg h3, if_neg h4, if_neg h5, if_neg h6, if_neg h8, if_neg h9]
  have n3 : ((k.toNat : Int) == 3) = false := (u8_int k 3).trans (decide_eq_false h3)
  have n4 : ((k.toNat : Int) == 4) = false := (u8_int k 4).trans (decide_eq_false h4)
  have n5 : ((k.toNat : Int) == 5) = false := (u8_int k 5).trans (decide_eq_false h5)
  have n6 : ((k.toNat : Int) == 6) = false := (u8_int k 6).trans (decide_eq_false h6)
  have n8 : ((k.toNat : Int) == 8) = false := (u8_int k 8).trans (decide_eq_false h8)
  have n9 : ((k.toNat : Int) == 9) = false := (u8_int k 9).trans (decide_eq_false h9)
  rw [ho, hc]
  clear ho hc h3 h4 h5 h6 h8 h9
  go_enter Tryz.func50, Tryz.ntmps50
  go_wp2_with fail
  go_ret2
  exact ⟨rfl, rfl⟩
set_option maxRecDepth 100000 in
set_option maxHeartbeats 1600000 in
theorem separator_any (k : UInt8) (i : Nat) (hi : i < 65536) (w : World) : Calls Tryz.prog 51 #[.int .i64 (k.toNat : Int), .int .i64 (i : Int)] w fun e w' => e = .returned (.string (toS (sepT k i))) ∧ w = w' := by
  by_cases h7 : k = 7
  · subst h7
    go_enter Tryz.func51, Tryz.ntmps51
    go_wp2_with fail
    go_ret
    exact ⟨rfl, rfl⟩
  by_cases h6 : k = 6
  · subst h6
    by_cases ho : i % 2 = 1
    · have hs : sepT 6 i = [32, 61, 62, 32] := by unfold sepT; rw [if_neg h7, if_pos ⟨rfl, ho⟩]
      have ho2 : (i : Int) % 2 = 1 := by omega
      rw [hs]
      clear hs ho h7
      go_enter Tryz.func51, Tryz.ntmps51
      go_wp2_with fail
      go_ret
      exact ⟨rfl, rfl⟩
    · have hs : sepT 6 i = [44, 32] := by unfold sepT; rw [if_neg h7, if_neg (fun q => ho q.2)]
      have ho2 : (i : Int) % 2 = 0 := by omega
      rw [hs]
      clear hs ho h7
      go_enter Tryz.func51, Tryz.ntmps51
      go_wp2_with fail
      go_ret
      exact ⟨rfl, rfl⟩
  · have hs : sepT k i = [44, 32] := by unfold sepT; rw [if_neg h7, if_neg (fun q => h6 q.1)]
    have n7 : ((k.toNat : Int) == 7) = false := (u8_int k 7).trans (decide_eq_false h7)
    have n6 : ((k.toNat : Int) == 6) = false := (u8_int k 6).trans (decide_eq_false h6)
    rw [hs]
    clear hs h7 h6
    go_enter Tryz.func51, Tryz.ntmps51
    go_wp2_with fail
    go_ret
    exact ⟨rfl, rfl⟩
/-! AppendBool -/
theorem below_of_grown {B n : Nat} {v : Value} {e : TypeId} {z : Nat} {xs : List Value} {W W' : World} (ho : W.ownsRow B e z v n xs) (hg : W.grownBy W' v.ownBlock) (hB : B ≤ W.heap.size) : RowKit.Below B W W' :=
  ⟨hg.os, hg.tape, hg.output, hg.size, fun i hi => hg.block i (by omega) (fun e => by have := (ho.lt i e.symm).1; omega)⟩
theorem cells_eq (l : List UInt8) : Go.Lib.byteCells l = bCells l := rfl
set_option maxRecDepth 100000 in
set_option maxHeartbeats 1600000 in
theorem appBool_any (b : Bool) (B n : Nat) (sv : Value) (xs : List Value) (w : World) (hO : w.ownsRow B 5 1 sv n xs) (hB : B ≤ w.heap.size) (hn : n ≤ 70368744177664) :
    Calls Tryz.prog 66 #[sv, .bool b] w fun e w' => ∃ v', e = .returned v' ∧ w'.ownsRow B 5 1 v' (n + (boolT b).length) (xs ++ bCells (boolT b)) ∧ Below B w w' := by
  obtain ⟨i0, hi0, hiz0, hiz1, hiz2⟩ := info_parts byte_infos
  have HI : Calls Tryz.prog 77 #[sv, .bool b] w fun e w' => ∃ v', e = .returned v' ∧ w'.ownsRow B 5 1 v' (n + (boolT b).length) (xs ++ bCells (boolT b)) ∧ Below B w w' := by
    have HO := hide hO
    clear hO
    obtain ⟨A3, c3, rfl⟩ := owns_form (unhide HO)
    cases b with
    | true =>
      go_enter Tryz.func77, Tryz.ntmps77
      go_wp2_with (at_builtin; refine Go.Lib.wpList_append_own_string _ rfl _ _ 48 9 rfl B 5 i0 Tryz.underlying48 Tryz.underlying9 hi0 hiz0 hiz1 hiz2 _ n _ rfl (unhide HO) ⟨#[116, 114, 117, 101]⟩ rfl (by unfold maxLen; show n + 4 ≤ _; omega) (by show n + 4 ≤ _; omega) hB ?_; intro v7 w7 hown7 hgrow7 _)
      have HB7 := hide (below_of_grown (unhide HO) hgrow7 hB)
      have HO7 := hide hown7
      clear hown7 hgrow7
      go_wp2_with fail
      go_ret
      exact ⟨v7, rfl, unhide HO7, unhide HB7⟩
    | false =>
      go_enter Tryz.func77, Tryz.ntmps77
      go_wp2_with (at_builtin; refine Go.Lib.wpList_append_own_string _ rfl _ _ 48 9 rfl B 5 i0 Tryz.underlying48 Tryz.underlying9 hi0 hiz0 hiz1 hiz2 _ n _ rfl (unhide HO) ⟨#[102, 97, 108, 115, 101]⟩ rfl (by unfold maxLen; show n + 5 ≤ _; omega) (by show n + 5 ≤ _; omega) hB ?_; intro v7 w7 hown7 hgrow7 _)
      have HB7 := hide (below_of_grown (unhide HO) hgrow7 hB)
      have HO7 := hide hown7
      clear hown7 hgrow7
      go_wp2_with fail
      go_ret
      exact ⟨v7, rfl, unhide HO7, unhide HB7⟩
  have HII := hide HI
  clear HI hO
  go_enter Tryz.func66, Tryz.ntmps66
  go_wp2_with fail
  refine (unhide HII).mono ?_
  rintro e w3 ⟨v', rfl, hO3, hB3⟩
  have HO3 := hide hO3
  have HB3 := hide hB3
  clear hO3 hB3
  go_wp2_with fail
  go_ret
  exact ⟨v', rfl, unhide HO3, unhide HB3⟩
/-! AppendInt -/
theorem appInt_any (z : Int) (hz : -9223372036854775808 ≤ z ∧ z ≤ 9223372036854775807) (B n : Nat) (sv : Value) (xs : List Value) (w : World) (hO : w.ownsRow B 5 1 sv n xs) (hB : B ≤ w.heap.size) (hn : n ≤ 70368744177664) (htab : Go.Lib.TabBelow Tryz.prog B w "internal/strconv.uint64pow10" .u64 Go.Lib.pow10Tab) :
    Calls Tryz.prog 67 #[sv, .int .i64 z, .int .i64 10] w fun e w' => ∃ v', e = .returned v' ∧ w'.ownsRow B 5 1 v' (n + (Go.Lib.itoa z).length) (xs ++ bCells (Go.Lib.itoa z)) ∧ Below B w w' :=
  (Any.strconv_AppendInt_10 Tryz.appInt B n z hz.1 hz.2 sv xs w hO hB (by omega) htab).mono fun e w' ⟨v', h1, h2, h3, _⟩ => ⟨v', h1, h2, h3⟩

end Go.Proofs.YtaambeficfiacaaGreatDoor
