/- The reference's two: a number's two bytes. -/
import Derived.Test.YtmaboodfgmbdjaaGreatDoorVrM
import Derived.Test.YtmaboodfgmbdjaaGreatDoorVaC
namespace Go.Proofs.YtmaboodfgmbdjaaGreatDoor
open Go.RowKit VM

def twoL (n : Nat) : List UInt8 := [UInt8.ofNat (n / 256), UInt8.ofNat n]
set_option linter.unusedSimpArgs false in
set_option maxRecDepth 100000 in
set_option maxHeartbeats 3200000 in
theorem rtwo_any (n : Nat) (hn : n < 65536) (w : World) :
    Calls Tryz.prog 44 #[.int .i64 (n : Int)] w fun e w' => e = .returned (.string ⟨(twoL n).toArray⟩) ∧ Below w.heap.size w w' := by
  have e1 : ((UInt8.ofNat (n / 256)).toNat : Int) = (n : Int) / 256 := by rw [UInt8.toNat_ofNat']; omega
  have e2 : ((UInt8.ofNat n).toNat : Int) = (n : Int) % 256 := by rw [UInt8.toNat_ofNat']; omega
  have hcv := run_convert_bytes_back (P := Tryz.prog) (w.alloc (.cells #[.int .u8 ((n : Int) / 256), .int .u8 ((n : Int) % 256)] 5)) 55 9 5 ⟨w.heap.size, 0, none⟩ 2 (twoL n) Tryz.underlying55 Tryz.underlying5 Tryz.underlying9 (fun q hq => by
    rw [add_at, Nat.zero_add, (Blk.new w _ _).cell]
    match q, hq with
    | 0, _ => rw [← e1]; rfl
    | 1, _ => rw [← e2]; rfl
    | q + 2, hq => exact absurd hq (by show ¬ q + 2 < 2; omega))
  have hl : (twoL n).length = 2 := rfl
  rw [hl] at hcv
  clear e1 e2 hl
  go_enter Tryz.func44, Tryz.ntmps44
  go_wp2_with fail
  go_ret
  exact ⟨rfl, (Below.refl _ _).alloc (Nat.le_refl _) _⟩

end Go.Proofs.YtmaboodfgmbdjaaGreatDoor
