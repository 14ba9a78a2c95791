/- SyntaxArity, run: three of its forty-two cases. No conditions. -/
import Derived.Test.YticicijidlpplaaGreatDoorSyn0
import Derived.KernelRfl
namespace Go.Proofs.YticicijidlpplaaGreatDoor
open Go
set_option maxRecDepth 100000
theorem synRun9_0 : Ev.valOf (Ev.runC Tryz.prog 100000 synH 3 [Ev.symOf 0 14 9, Ev.symOf 1 3 0]) = some (.bool true) := by kernel_rfl
theorem synRun9_1 : Ev.valOf (Ev.runC Tryz.prog 100000 synH 3 [Ev.symOf 0 14 9, Ev.symOf 1 3 1]) = some (.bool true) := by kernel_rfl
theorem synRun9_2 : Ev.valOf (Ev.runC Tryz.prog 100000 synH 3 [Ev.symOf 0 14 9, Ev.symOf 1 3 2]) = some (.bool true) := by kernel_rfl
end Go.Proofs.YticicijidlpplaaGreatDoor
