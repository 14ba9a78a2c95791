/- Drawn regions: what holds behind every operation may be made stronger. No conditions. -/
import Derived.Test.YtmaboodfgmbdjaaGreatDoorB0
import Derived.Deep.RegionHeld3
namespace Go.Proofs.YtmaboodfgmbdjaaGreatDoor
open Go.RowKit

theorem wpAnyH_stronger {P : Program} {ops : Array Oper} {Q : Exit → Act → World → Prop} {md : Region.Mode} {S S' : World → Prop} (hS : ∀ w, S' w → S w) : ∀ {f : Nat} {l : Array Bool} {a : Act} {w : World}, wpAnyH P md ops Q S' f l a w → wpAnyH P md ops Q S f l a w := by
  intro f
  induction f with
  | zero => exact fun h => h
  | succ f ih => exact fun h => ⟨h.1, fun i hi => wpOp_mono (fun a' w' q => ⟨hS _ q.1, ih q.2⟩) (h.2 i hi)⟩

end Go.Proofs.YtmaboodfgmbdjaaGreatDoor
