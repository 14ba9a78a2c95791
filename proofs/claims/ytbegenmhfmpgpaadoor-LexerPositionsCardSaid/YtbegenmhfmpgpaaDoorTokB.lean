/- Remainders: help.Mod. No conditions. -/
import Derived.Test.YtbegenmhfmpgpaaDoorLexL
import Derived.Test.YtbegenmhfmpgpaaDoorLexW7
namespace Go.Proofs.YtbegenmhfmpgpaaDoor
open Go.RowKit M

def modK (v : Int) (m : Nat) : Nat := (v % 18446744073709551616 % (m : Int)).toNat
theorem modK_lt (v : Int) (m : Nat) (hm : 0 < m) : modK v m < m := by
  unfold modK
  have h2 : 0 ≤ v % 18446744073709551616 % (m : Int) := Int.emod_nonneg _ (by omega)
  have h3 : v % 18446744073709551616 % (m : Int) < m := Int.emod_lt_of_pos _ (by omega)
  omega
theorem modK_eq (v : Int) (m : Nat) (hm : 0 < m) (hm2 : m ≤ 100000) : wrap64 ((IntKind.u64.wrap v).tmod (m : Int)) = (modK v m : Int) := by
  rw [IntKind.wrap_u64, Int.tmod_eq_emod_of_nonneg (by omega)]
  have h2 : 0 ≤ v % 18446744073709551616 % (m : Int) := Int.emod_nonneg _ (by omega)
  have h3 : v % 18446744073709551616 % (m : Int) < m := Int.emod_lt_of_pos _ (by omega)
  unfold modK wrap64
  omega
set_option maxHeartbeats 1000000 in
theorem mod_any (v : Int) (m : Nat) (hm : 0 < m) (hm2 : m ≤ 100000) (w : World) :
    Calls Tryd.prog 50 #[.int .i64 v, .int .i64 m] w fun e w' => e = .returned (.int .i64 (modK v m)) ∧ w' = w := by
  have H := Lib.hid (modK_eq v m hm hm2)
  have hmb : (0 : Int) < m := by omega
  have hmb2 : (m : Int) ≤ 100000 := by omega
  clear hm hm2
  go_enter Tryd.func50, Tryd.ntmps50
  go_wp2
  go_ret
  exact ⟨ret_int H.out, rfl⟩

end Go.Proofs.YtbegenmhfmpgpaaDoor
