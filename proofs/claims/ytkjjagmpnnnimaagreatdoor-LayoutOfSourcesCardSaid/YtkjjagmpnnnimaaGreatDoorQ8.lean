/- What the reference's cursor does: step, at, comment, skip move the one block that the cursor is. What the rows' listed variables give the walks: strconv.ErrRange holds an interface value; and a start at which all listed variables read as listed. Remainders: help.Mod. No conditions. -/
import Derived.Test.YtkjjagmpnnnimaaGreatDoorQ7
import Derived.Test.YtkjjagmpnnnimaaGreatDoorQ3
import Derived.ProofKit
import Derived.LaidMore
import Derived.OpenShut
import Derived.Stop.Joined
import Derived.Stop.LaidErr
import Derived.Test.YtkjjagmpnnnimaaGreatDoorQ4
namespace Go.Proofs.YtkjjagmpnnnimaaGreatDoor
open Go.RowKit M

/-- block g is a reference's cursor: its source, the index, the line, the column -/
def RCur (w : World) (g : Nat) (s : ByteArray) (i : Nat) (p : Int × Int) : Prop := w.heap[g]? = some (.cells #[.string s, .int .i64 i, .int .i64 p.1, .int .i64 p.2] 35 (0, 0))

section
variable {w w' : World} {g : Nat} {s : ByteArray} {i : Nat} {p : Int × Int}
theorem RCur.lt (h : RCur w g s i p) : g < w.heap.size := lt_of_some h
theorem RCur.c0 (h : RCur w g s i p) : w.cell? ⟨g, 0, none⟩ = some (.string s) := cell_of_row w g 0 _ _ _ h
theorem RCur.c1 (h : RCur w g s i p) : w.cell? ⟨g, 1, none⟩ = some (.int .i64 i) := cell_of_row w g 1 _ _ _ h
theorem RCur.c2 (h : RCur w g s i p) : w.cell? ⟨g, 2, none⟩ = some (.int .i64 p.1) := cell_of_row w g 2 _ _ _ h
theorem RCur.c3 (h : RCur w g s i p) : w.cell? ⟨g, 3, none⟩ = some (.int .i64 p.2) := cell_of_row w g 3 _ _ _ h
theorem RCur.f (h : RCur w g s i p) (j : Nat) : w.frozen? ⟨g, j, none⟩ = false := by
  unfold RCur at h; simp [World.frozen?, h]
theorem RCur.set1 (h : RCur w g s i p) (n : Nat) : RCur (w.setCell ⟨g, 1, none⟩ (.int .i64 n)) g s n p := by
  unfold RCur at h ⊢
  simp [World.setCell, Array.getElem?_modify, h]
theorem RCur.set2 (h : RCur w g s i p) (n : Int) : RCur (w.setCell ⟨g, 2, none⟩ (.int .i64 n)) g s i (n, p.2) := by
  unfold RCur at h ⊢
  simp [World.setCell, Array.getElem?_modify, h]
theorem RCur.set3 (h : RCur w g s i p) (n : Int) : RCur (w.setCell ⟨g, 3, none⟩ (.int .i64 n)) g s i (p.1, n) := by
  unfold RCur at h ⊢
  simp [World.setCell, Array.getElem?_modify, h]
theorem RCur.grown {row : Option Nat} (h : RCur w g s i p) (hg : w.grownBy w' row) (hr : some g ≠ row) : RCur w' g s i p := (hg.block g h.lt hr).trans h
theorem RCur.drewN (h : RCur w g s i p) (n : Nat) : RCur (w.drewN n) g s i p := h
end
theorem only_drewN {a w : World} {row : Option Nat} (h : a.grownBy w row) (n : Nat) : a.grownBy (w.drewN n) row := ⟨h.os, h.tape, h.output, h.size, h.block⟩
theorem int_eq {a b : Int} (h : a = b) : Value.int .i64 a = .int .i64 b := by rw [h]

/-- what a step leaves: the cursor one byte on -/
def StepPost (w : World) (g : Nat) (s : ByteArray) (i : Nat) (p : Int × Int) (e : Ending) (w' : World) : Prop :=
  e = .returned (.tuple #[]) ∧ RCur w' g s i p ∧ w.grownBy w' (some g)

set_option maxHeartbeats 1000000 in
theorem rstep_any (w : World) (g : Nat) (s : ByteArray) (i : Nat) (p : Int × Int) (hc : RCur w g s i p) (hm : s.size ≤ 65536) (hi : i < s.size)
    (h1 : 0 ≤ p.1) (h2 : p.1 ≤ 1000000) (h3 : 0 ≤ p.2) (h4 : p.2 ≤ 1000000) :
    Calls Tryz.prog 11 #[.pointer (some ⟨g, 0, none⟩)] w (StepPost w g s (i + 1) (stepP p s[i])) := by
  have d0 := hc.c0
  have d1 := hc.c1
  have d2 := hc.c2
  have d3 := hc.c3
  have f1 := hc.f 1
  have f2 := hc.f 2
  have f3 := hc.f 3
  have HC := Lib.hid hc
  clear hc
  obtain ⟨a, b⟩ := p
  simp only at h1 h2 h3 h4 d2 d3
  have b0 : (0 : Int) ≤ (i : Int) := by omega
  have b1 : (i : Int) < (s.size : Int) := by omega
  by_cases ht : s[i].toNat = 10
  · have hs : Hid (stepP (a, b) s[i] = (a + 1, 1)) := by unfold Hid stepP; rw [if_pos ht]
    have hv := cast_to _ _ ht
    clear ht
    go_enter Tryz.func11, Tryz.ntmps11
    go_wp2
    go_quiet (fail)
    go_wp2
    go_end0
    refine ⟨rfl, ?_, ?_⟩
    · rw [hs.out]
      exact (((HC.out.drewN _).set2 _).set3 _).set1 (i + 1)
    · exact only_set (only_set (only_set (only_drewN (only_refl w (some g)) _) _ _) _ _) _ _
  · have hs : Hid (stepP (a, b) s[i] = (a, b + 1)) := by unfold Hid stepP; rw [if_neg ht]
    have g0 : ((s[i].toNat : Int) == 10) = false := beq_eq_false_iff_ne.2 (by omega)
    clear ht
    go_enter Tryz.func11, Tryz.ntmps11
    go_wp2
    go_quiet (fail)
    go_wp2
    go_end0
    refine ⟨rfl, ?_, ?_⟩
    · rw [hs.out]
      exact ((HC.out.drewN _).set3 _).set1 (i + 1)
    · exact only_set (only_set (only_drewN (only_refl w (some g)) _) _ _) _ _

/-- what a look at the next two bytes leaves -/
def AtPost (w : World) (g : Nat) (s : ByteArray) (i : Nat) (p : Int × Int) (r : Bool) (e : Ending) (w' : World) : Prop :=
  e = .returned (.bool r) ∧ RCur w' g s i p ∧ w.grownBy w' (some g)

set_option maxHeartbeats 1000000 in
theorem rat_any (w : World) (g : Nat) (s : ByteArray) (i : Nat) (p : Int × Int) (hc : RCur w g s i p) (hm : s.size ≤ 65536) (hi : i ≤ s.size) (a b : UInt8) (r : Bool) (hr : [a, b].isPrefixOf (rest s i) = r) :
    Calls Tryz.prog 26 #[.pointer (some ⟨g, 0, none⟩), .string ⟨#[a, b]⟩] w (AtPost w g s i p r) := by
  have d0 := hc.c0
  have d1 := hc.c1
  have HC := Lib.hid hc
  have hpx := prefix_take [a, b] (rest s i)
  rw [rest_length, hr] at hpx
  have hext : (s.extract i (i + 2)).data.toList = (rest s i).take 2 := by
    unfold rest
    rw [ByteArray.data_extract, Array.toList_extract, List.extract_eq_take_drop]
    rw [Nat.add_sub_cancel_left]
  clear hc hr
  have ht : (⟨#[a, b]⟩ : ByteArray).toList = [a, b] := by rw [ByteArray.toList_eq]
  have hz : (⟨#[a, b]⟩ : ByteArray).size = 2 := rfl
  have hl : ([a, b] : Bs).length = 2 := rfl
  rw [hl] at hpx
  generalize (⟨#[a, b]⟩ : ByteArray) = t at *
  by_cases h1 : i + 2 ≤ s.size
  · rw [decide_eq_true (by omega), Bool.true_and] at hpx
    have c2 : ((s.extract i (i + 2)).toList == t.toList) = r := by
      rw [ByteArray.toList_eq, hext, ht]; exact hpx.symm
    have HZ := Lib.hid hz
    have g1 : (i : Int) + 2 ≤ (s.size : Int) := by omega
    have g2 : (0 : Int) ≤ (i : Int) := by omega
    have s1 : IntKind.i64.wrap ((i : Int) + 2) = (i : Int) + 2 := IntWalk.i64_in _ (by omega)
    have s2 : decide ((i : Int) + 2 ≤ (s.size : Int)) = true := by simp; omega
    have s3 : (0 : Int) ≤ (i : Int) + 2 := by omega
    have s4 : ((i : Int) + 2).toNat = i + 2 := by omega
    clear hpx hext ht hl h1
    cases r
    all_goals
      go_enter Tryz.func26, Tryz.ntmps26
      go_wp2
      go_quiet (fail)
      go_wp2
      go_ret
      exact ⟨rfl, HC.out.drewN _, only_drewN (only_refl w (some g)) _⟩
  · rw [decide_eq_false (by omega), Bool.false_and] at hpx
    subst hpx
    have HZ := Lib.hid hz
    have g1 : (s.size : Int) < (i : Int) + 2 := by omega
    have g2 : (0 : Int) ≤ (i : Int) := by omega
    have s1 : IntKind.i64.wrap ((i : Int) + 2) = (i : Int) + 2 := IntWalk.i64_in _ (by omega)
    have s2 : decide ((i : Int) + 2 ≤ (s.size : Int)) = false := by simp; omega
    clear hext ht hl h1
    go_enter Tryz.func26, Tryz.ntmps26
    go_wp2
    go_quiet (fail)
    go_wp2
    go_ret
    exact ⟨rfl, HC.out.drewN _, only_drewN (only_refl w (some g)) _⟩

end Go.Proofs.YtkjjagmpnnnimaaGreatDoor

namespace Go.Proofs.YtkjjagmpnnnimaaGreatDoor
open Go Go.RowKit

theorem own : ownKnob Tryz.prog.godebug = none := by kernel_rfl
/-- the variables that each row of this seat lists -/
def laidAll : List (String × DataW Unit) := [("math/bits.deBruijn32tab", Rows.laid_math_bits_deBruijn32tab), ("math/bits.deBruijn64tab", Rows.laid_math_bits_deBruijn64tab), ("internal/strconv.uint64pow10", Rows.laid_internal_strconv_uint64pow10), ("strconv.ErrRange", Rows.laid_strconv_ErrRange), ("strconv.ErrSyntax", Rows.laid_strconv_ErrSyntax)]

theorem type_range : (Tryz.prog.globals[1]?).map (·.type) = some 89 := by kernel_rfl
theorem cells_errStr : Tryz.prog.cellsOf 109 = 1 := by kernel_rfl
theorem cells_str : Tryz.prog.cellsOf 9 = 1 := by kernel_rfl
theorem star_err : "*" ++ "errors.errorString" = "*errors.errorString" := by decide
theorem row_err (u : TypeId) (h : Tryz.prog.typeName? 3 u = some "*errors.errorString") : u = 107 :=
  typeName_ptr_named (nm := "errors.errorString") (by rw [star_err]; kernel_rfl) (by kernel_rfl) (by decide) u (by rw [star_err]; exact h)

theorem rangeVar_of_laid {W : World} (h : laidMetH Tryz.prog laidAll W) : RangeVar W := by
  have h1 : laidMet Tryz.prog laidAll W := by rw [MakeChecks.laidMetH_plain _ _ _ (by kernel_rfl)] at h; exact h
  have h2 := laidMet.tail (laidMet.tail (laidMet.tail (show laidMet Tryz.prog (_ :: _ :: _ :: ("strconv.ErrRange", Rows.laid_strconv_ErrRange) :: _) W from h1)))
  obtain ⟨a0, s0, hv0, -, -, -⟩ := laid_sentinel h2 global_range type_range Tryz.underlying89 row_err Tryz.underlying107 Tryz.underlying109 rfl rfl Tryz.underlying9 cells_errStr cells_str
  exact ⟨_, _, hv0⟩

theorem door_met (os : Os) (args : Array Value) : laidMetH Tryz.prog laidAll ((World.doorLaid Tryz.prog 400 os).forCall (fun _ _ => 0) ⟨#[], args, []⟩).memory :=
  laidMetH_of_parts3 (fuel := 8) (laidMet_of_run' 8 (by kernel_rfl) (by kernel_rfl)) (by kernel_rfl) (by kernel_rfl)

end Go.Proofs.YtkjjagmpnnnimaaGreatDoor

namespace Go.Proofs.YtkjjagmpnnnimaaGreatDoor
open Go.RowKit M

def modK (v : Int) (m : Nat) : Nat := (v % 18446744073709551616 % (m : Int)).toNat
theorem modK_lt (v : Int) (m : Nat) (hm : 0 < m) : modK v m < m := by
  unfold modK
  have h2 : 0 ≤ v % 18446744073709551616 % (m : Int) := Int.emod_nonneg _ (by omega)
  have h3 : v % 18446744073709551616 % (m : Int) < m := Int.emod_lt_of_pos _ (by omega)
  omega
theorem modK_eq (v : Int) (m : Nat) (hm : 0 < m) (hm2 : m ≤ 100000) : wrap64 ((IntKind.u64.wrap v).tmod (m : Int)) = (modK v m : Int) := by
  rw [IntKind.wrap_u64, Int.tmod_eq_emod_of_nonneg (by omega)]
  have h2 : 0 ≤ v % 18446744073709551616 % (m : Int) := Int.emod_nonneg _ (by omega)
  have h3 : v % 18446744073709551616 % (m : Int) < m := Int.emod_lt_of_pos _ (by omega)
  unfold modK wrap64
  omega
set_option maxHeartbeats 1000000 in
theorem mod_any (v : Int) (m : Nat) (hm : 0 < m) (hm2 : m ≤ 100000) (w : World) :
    Calls Tryz.prog 36 #[.int .i64 v, .int .i64 m] w fun e w' => e = .returned (.int .i64 (modK v m)) ∧ w' = w := by
  have H := Lib.hid (modK_eq v m hm hm2)
  have hmb : (0 : Int) < m := by omega
  have hmb2 : (m : Int) ≤ 100000 := by omega
  clear hm hm2
  go_enter Tryz.func36, Tryz.ntmps36
  go_wp2
  go_ret
  exact ⟨ret_int H.out, rfl⟩

end Go.Proofs.YtkjjagmpnnnimaaGreatDoor
