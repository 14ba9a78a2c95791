/- The reference's Kind. Condition: at most 2^48 bytes. -/
import Derived.Test.YtmaboodfgmbdjaaGreatDoorVrJ
namespace Go.Proofs.YtmaboodfgmbdjaaGreatDoor
open Go.RowKit VM

def kindM (s : ByteArray) : Int := if valB 32 s = true then ((treeB s).kind.toNat : Int) else 0
set_option linter.unusedSimpArgs false in
set_option maxRecDepth 100000 in
set_option maxHeartbeats 1600000 in
theorem rkind_any (s : ByteArray) (hs : s.size ≤ 281474976710656) (w : World) :
    Calls Tryz.prog 63 #[.string s] w fun e w' => e = .returned (.int .i64 (kindM s)) ∧ Below w.heap.size w w' := by
  have HV := Lib.hid (fun w => rvalid_any s hs w)
  unfold kindM
  cases h1 : valB 32 s with
  | true =>
    rw [h1] at HV
    obtain ⟨a1, a2, a3⟩ := tree_ok h1
    obtain ⟨hs0, k0⟩ := enc_first (r := []) a1 (by rw [a2, List.append_nil])
    have e1 : s[0] = (treeB s).kind := by rw [bs_get s 0 hs0] at k0; exact Option.some.inj k0
    rw [if_pos rfl]
    generalize (treeB s).kind = k at *
    have wk : wrap64 (k.toNat : Int) = (k.toNat : Int) := IntWalk.wrap64_in _ (by have := k.toNat_lt; omega)
    clear a1 a2 h1 k0
    go_enter Tryz.func63, Tryz.ntmps63
    go_wp2_with fail
    refine (HV.out _).mono ?_
    rintro e w1 ⟨rfl, hb1⟩
    have HB1 := hide hb1
    clear hb1
    go_wp2_with fail
    go_ret
    exact ⟨ret_i wk, unhide HB1⟩
  | false =>
    rw [h1] at HV
    rw [if_neg (by simp)]
    clear h1
    go_enter Tryz.func63, Tryz.ntmps63
    go_wp2_with fail
    refine (HV.out _).mono ?_
    rintro e w1 ⟨rfl, hb1⟩
    have HB1 := hide hb1
    clear hb1
    go_wp2_with fail
    go_ret
    exact ⟨rfl, unhide HB1⟩

end Go.Proofs.YtmaboodfgmbdjaaGreatDoor
