/- The fixed example of the statements about layout holds. Condition: strconv.ErrRange holds an interface value. What the rows' listed variables give the walks: strconv.ErrRange holds an interface value; and a start at which all listed variables read as listed. Remainders: help.Mod. No conditions. -/
import Derived.Test.YtoogbgmneabfnaaDoorG28
import Derived.Test.YtoogbgmneabfnaaDoorG3
import Derived.ProofKit
import Derived.LaidMore
import Derived.OpenShut
import Derived.Stop.Joined
import Derived.Stop.LaidErr
import Derived.Test.YtoogbgmneabfnaaDoorG4
namespace Go.Proofs.YtoogbgmneabfnaaDoor
open Go.RowKit M

set_option maxRecDepth 100000 in
set_option maxHeartbeats 3200000 in
theorem awake2_any (w : World) (hr : RangeVar w) :
    Calls Tryd.prog 4 #[] w fun e w' => e = .returned (.bool true) ∧ Below w.heap.size w w' := by
  have HR := Lib.hid hr
  have h1 := fun W hr => lines_any ⟨#[102, 32, 61, 32, 108, 101, 116, 32, 120, 32, 61, 32, 49, 10, 32, 32, 32, 32, 32, 32, 32, 32, 121, 32, 61, 32, 50, 10, 32, 32, 32, 32, 119, 105, 116, 104, 105, 110, 32, 120, 10, 103, 32, 61, 32, 51]⟩ (by decide) W hr
  rw [show ((⟨#[102, 32, 61, 32, 108, 101, 116, 32, 120, 32, 61, 32, 49, 10, 32, 32, 32, 32, 32, 32, 32, 32, 121, 32, 61, 32, 50, 10, 32, 32, 32, 32, 119, 105, 116, 104, 105, 110, 32, 120, 10, 103, 32, 61, 32, 51]⟩ : ByteArray).data.toList) = src1 from rfl] at h1
  have h2 := fun W hr => lines_any ⟨#[32, 102, 32, 61, 32, 49]⟩ (by decide) W hr
  rw [show ((⟨#[32, 102, 32, 61, 32, 49]⟩ : ByteArray).data.toList) = [32, 102, 32, 61, 32, 49] from rfl, src2_ok] at h2
  have hok := src1_ok
  have hln := insL_len (scan src1).1
  have hsl := scan_length src1
  generalize insL (scan src1).1 = R at *
  obtain ⟨out, p, er⟩ := R
  obtain ⟨hk1, hk2⟩ := hok
  injection hk1 with hk3 hk4
  subst hk3 hk4
  have HK := Lib.hid hk2
  have HKI := Lib.hid (fun W A n c h1 h2 => kinds_any W A n c out h1 h2 (by simp only at hln; omega))
  have H1 := Lib.hid h1
  have H2 := Lib.hid h2
  clear hr h1 h2 hk2 hln hsl
  go_enter Tryd.func4, Tryd.ntmps4
  go_wp2_with fail
  refine (H1.out _ HR.out).mono ?_
  rintro e w1 ⟨v1, rfl, ho1, hb1⟩
  obtain ⟨A1, c1, rfl⟩ := owns_form ho1
  have HO1 := Lib.hid ho1
  have HR1 := Lib.hid (HR.out.below hb1)
  have HB1 := Lib.hid hb1
  have hz1 := hb1.size
  clear ho1 hb1
  go_wp2_with fail
  refine (H2.out _ (HR1.out.alloc _)).mono ?_
  rintro e w2 ⟨v2, rfl, ho2, hb2⟩
  obtain ⟨A2, c2, rfl⟩ := owns_form ho2
  have HB2 := Lib.hid hb2
  have hz2 := hb2.size
  simp at hz2
  have HI := Lib.hid (fun o : Obj => InToks.own (((owns_below (owns_alloc_n HO1.out _) hb2)).alloc o) rfl)
  clear ho2 hb2
  go_wp2_with fail
  refine (HKI.out _ _ _ _ rfl (HI.out _)).mono ?_
  rw [HK.out]
  rintro e w3 ⟨rfl, rfl⟩
  go_wp2
  go_ret
  exact ⟨rfl, ((HB1.out.alloc hz1 _).trans (HB2.out.mono (by simp; omega))).alloc (by omega) _⟩

end Go.Proofs.YtoogbgmneabfnaaDoor

namespace Go.Proofs.YtoogbgmneabfnaaDoor
open Go Go.RowKit

theorem own : ownKnob Tryd.prog.godebug = none := by kernel_rfl
/-- the variables that each row of this seat lists -/
def laidAll : List (String × DataW Unit) := [("math/bits.deBruijn32tab", Rows.laid_math_bits_deBruijn32tab), ("math/bits.deBruijn64tab", Rows.laid_math_bits_deBruijn64tab), ("internal/strconv.uint64pow10", Rows.laid_internal_strconv_uint64pow10), ("strconv.ErrRange", Rows.laid_strconv_ErrRange), ("strconv.ErrSyntax", Rows.laid_strconv_ErrSyntax)]

theorem type_range : (Tryd.prog.globals[1]?).map (·.type) = some 82 := by kernel_rfl
theorem cells_errStr : Tryd.prog.cellsOf 103 = 1 := by kernel_rfl
theorem cells_str : Tryd.prog.cellsOf 9 = 1 := by kernel_rfl
theorem star_err : "*" ++ "errors.errorString" = "*errors.errorString" := by decide
theorem row_err (u : TypeId) (h : Tryd.prog.typeName? 3 u = some "*errors.errorString") : u = 101 :=
  typeName_ptr_named (nm := "errors.errorString") (by rw [star_err]; kernel_rfl) (by kernel_rfl) (by decide) u (by rw [star_err]; exact h)

theorem rangeVar_of_laid {W : World} (h : laidMetH Tryd.prog laidAll W) : RangeVar W := by
  have h1 : laidMet Tryd.prog laidAll W := by rw [MakeChecks.laidMetH_plain _ _ _ (by kernel_rfl)] at h; exact h
  have h2 := laidMet.tail (laidMet.tail (laidMet.tail (show laidMet Tryd.prog (_ :: _ :: _ :: ("strconv.ErrRange", Rows.laid_strconv_ErrRange) :: _) W from h1)))
  obtain ⟨a0, s0, hv0, -, -, -⟩ := laid_sentinel h2 global_range type_range Tryd.underlying82 row_err Tryd.underlying101 Tryd.underlying103 rfl rfl Tryd.underlying9 cells_errStr cells_str
  exact ⟨_, _, hv0⟩

theorem door_met (os : Os) (args : Array Value) : laidMetH Tryd.prog laidAll ((World.doorLaid Tryd.prog 400 os).forCall (fun _ _ => 0) ⟨#[], args, []⟩).memory :=
  laidMetH_of_parts3 (fuel := 8) (laidMet_of_run' 8 (by kernel_rfl) (by kernel_rfl)) (by kernel_rfl) (by kernel_rfl)

end Go.Proofs.YtoogbgmneabfnaaDoor

namespace Go.Proofs.YtoogbgmneabfnaaDoor
open Go.RowKit M

def modK (v : Int) (m : Nat) : Nat := (v % 18446744073709551616 % (m : Int)).toNat
theorem modK_lt (v : Int) (m : Nat) (hm : 0 < m) : modK v m < m := by
  unfold modK
  have h2 : 0 ≤ v % 18446744073709551616 % (m : Int) := Int.emod_nonneg _ (by omega)
  have h3 : v % 18446744073709551616 % (m : Int) < m := Int.emod_lt_of_pos _ (by omega)
  omega
theorem modK_eq (v : Int) (m : Nat) (hm : 0 < m) (hm2 : m ≤ 100000) : wrap64 ((IntKind.u64.wrap v).tmod (m : Int)) = (modK v m : Int) := by
  rw [IntKind.wrap_u64, Int.tmod_eq_emod_of_nonneg (by omega)]
  have h2 : 0 ≤ v % 18446744073709551616 % (m : Int) := Int.emod_nonneg _ (by omega)
  have h3 : v % 18446744073709551616 % (m : Int) < m := Int.emod_lt_of_pos _ (by omega)
  unfold modK wrap64
  omega
set_option maxHeartbeats 1000000 in
theorem mod_any (v : Int) (m : Nat) (hm : 0 < m) (hm2 : m ≤ 100000) (w : World) :
    Calls Tryd.prog 26 #[.int .i64 v, .int .i64 m] w fun e w' => e = .returned (.int .i64 (modK v m)) ∧ w' = w := by
  have H := Lib.hid (modK_eq v m hm hm2)
  have hmb : (0 : Int) < m := by omega
  have hmb2 : (m : Int) ≤ 100000 := by omega
  clear hm hm2
  go_enter Tryd.func26, Tryd.ntmps26
  go_wp2
  go_ret
  exact ⟨ret_int H.out, rfl⟩

end Go.Proofs.YtoogbgmneabfnaaDoor
