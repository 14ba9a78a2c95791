/- A slice of bytes that came in, opened for the walks. No conditions. -/
import Derived.Test.YtbegenmhfmpgpaaDoorLexX0
import Derived.Test.YtbegenmhfmpgpaaDoorLexL
namespace Go.Proofs.YtbegenmhfmpgpaaDoor
open Go Go.ChangeShapes Go.WideShapes Go.ChangeAt Go.RowKit
open Go.WideMaps Go.WideElems

theorem cells_u8 : Tryd.prog.cellsOf 5 = 1 := by kernel_rfl

theorem bytes_in {H : Type} {enc : TypeId × Value → H} (W : World) {a : Option Addr} {n c : Nat} {d : DataW H} {p : List MemPlace}
    (h : DataW.Trod enc Tryd.prog W 0 (fun _ => true) true 37 (.slice a n c) d p) : InBytes W a n ∧ n ≤ maxLen := by
  obtain ⟨fuel, hf⟩ := h
  rcases open_ints Tryd.underlying37 Tryd.underlying5 cells_u8 hf with ⟨hcs, _⟩ | ⟨a', len', cap', zs, hcs, _, hl, hm, hz, _, hcell, hwz⟩
  · simp [Value.cells] at hcs
    obtain ⟨_, rfl, _⟩ := hcs
    exact ⟨.inl rfl, by unfold maxLen; omega⟩
  · simp [Value.cells] at hcs
    obtain ⟨rfl, rfl, rfl⟩ := hcs
    refine ⟨?_, by omega⟩
    simp only [if_true] at hz
    by_cases h0 : n = 0
    · exact .inl h0
    · obtain ⟨b, off, rfl, hc⟩ := ints_at hcell (by omega)
      refine .inr ⟨b, off, rfl, ?_, fun k hk => ?_⟩
      · have := hc 0 (by omega)
        rcases Nat.lt_or_ge b W.heap.size with hlt | hge
        · exact hlt
        · simp [World.cell?, Array.getElem?_eq_none hge] at this
      · have hk2 : k < zs.length := by omega
        have hw := hwz (zs.getD k 0) (by simp [hk2])
        have hb : 0 ≤ zs.getD k 0 ∧ zs.getD k 0 ≤ 255 := bounds_u8 hw
        exact ⟨zs.getD k 0, hb.1, hb.2, hc k hk2⟩

end Go.Proofs.YtbegenmhfmpgpaaDoor
