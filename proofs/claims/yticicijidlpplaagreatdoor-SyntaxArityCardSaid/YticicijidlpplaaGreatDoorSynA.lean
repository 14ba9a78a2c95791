/- SyntaxArity returns true, whatever its two bytes are: its cases put together. No conditions. -/
import Derived.Test.YticicijidlpplaaGreatDoorSynR0
import Derived.Test.YticicijidlpplaaGreatDoorSynR1
import Derived.Test.YticicijidlpplaaGreatDoorSynR2
import Derived.Test.YticicijidlpplaaGreatDoorSynR3
import Derived.Test.YticicijidlpplaaGreatDoorSynR4
import Derived.Test.YticicijidlpplaaGreatDoorSynR5
import Derived.Test.YticicijidlpplaaGreatDoorSynR6
import Derived.Test.YticicijidlpplaaGreatDoorSynR7
import Derived.Test.YticicijidlpplaaGreatDoorSynR8
import Derived.Test.YticicijidlpplaaGreatDoorSynR9
import Derived.Test.YticicijidlpplaaGreatDoorSynR10
import Derived.Test.YticicijidlpplaaGreatDoorSynR11
import Derived.Test.YticicijidlpplaaGreatDoorSynR12
import Derived.Test.YticicijidlpplaaGreatDoorSynR13
namespace Go.Proofs.YticicijidlpplaaGreatDoor
open Go Go.RowKit
theorem synRuns : ∀ r k : Nat, r < 14 → k < 3 → Ev.valOf (Ev.runC Tryz.prog 100000 synH 3 [Ev.symOf 0 14 r, Ev.symOf 1 3 k]) = some (.bool true)
  | 0, 0, _, _ => synRun0_0
  | 0, 1, _, _ => synRun0_1
  | 0, 2, _, _ => synRun0_2
  | 1, 0, _, _ => synRun1_0
  | 1, 1, _, _ => synRun1_1
  | 1, 2, _, _ => synRun1_2
  | 2, 0, _, _ => synRun2_0
  | 2, 1, _, _ => synRun2_1
  | 2, 2, _, _ => synRun2_2
  | 3, 0, _, _ => synRun3_0
  | 3, 1, _, _ => synRun3_1
  | 3, 2, _, _ => synRun3_2
  | 4, 0, _, _ => synRun4_0
  | 4, 1, _, _ => synRun4_1
  | 4, 2, _, _ => synRun4_2
  | 5, 0, _, _ => synRun5_0
  | 5, 1, _, _ => synRun5_1
  | 5, 2, _, _ => synRun5_2
  | 6, 0, _, _ => synRun6_0
  | 6, 1, _, _ => synRun6_1
  | 6, 2, _, _ => synRun6_2
  | 7, 0, _, _ => synRun7_0
  | 7, 1, _, _ => synRun7_1
  | 7, 2, _, _ => synRun7_2
  | 8, 0, _, _ => synRun8_0
  | 8, 1, _, _ => synRun8_1
  | 8, 2, _, _ => synRun8_2
  | 9, 0, _, _ => synRun9_0
  | 9, 1, _, _ => synRun9_1
  | 9, 2, _, _ => synRun9_2
  | 10, 0, _, _ => synRun10_0
  | 10, 1, _, _ => synRun10_1
  | 10, 2, _, _ => synRun10_2
  | 11, 0, _, _ => synRun11_0
  | 11, 1, _, _ => synRun11_1
  | 11, 2, _, _ => synRun11_2
  | 12, 0, _, _ => synRun12_0
  | 12, 1, _, _ => synRun12_1
  | 12, 2, _, _ => synRun12_2
  | 13, 0, _, _ => synRun13_0
  | 13, 1, _, _ => synRun13_1
  | 13, 2, _, _ => synRun13_2
  | r + 14, _, h, _ => absurd h (by omega)
  | _, k + 3, _, h => absurd h (by omega)
theorem syntaxArity_any (n m : Nat) (hn : n < 256) (hm : m < 256) {W : World} (hT : Ev.Tabled synH W) :
    Calls Tryz.prog 3 #[.int .u8 (n : Int), .int .u8 (m : Int)] W (fun e W' => e = .returned (.bool true) ∧ Below W.heap.size W W') :=
  Ev.calls_of_run' (P := Tryz.prog) (by kernel_rfl) (bs := [n, m]) (us := [.int .u8 (n : Int), .int .u8 (m : Int)]) (args := [Ev.symOf 0 14 (n % 14), Ev.symOf 1 3 (m % 3)]) hT
    ⟨rfl, fun i x z hx hz => by
      match i, hx, hz with
      | 0, hx, hz => cases hx; cases hz; exact Ev.sym_vr (by decide) (by decide) rfl rfl hn
      | 1, hx, hz => cases hx; cases hz; exact Ev.sym_vr (by decide) (by decide) rfl rfl hm⟩
    (synRuns (n % 14) (m % 3) (Nat.mod_lt _ (by decide)) (Nat.mod_lt _ (by decide)))
end Go.Proofs.YticicijidlpplaaGreatDoor
