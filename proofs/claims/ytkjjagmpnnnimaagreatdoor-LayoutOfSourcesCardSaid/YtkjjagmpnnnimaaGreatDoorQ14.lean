/- The writer of sources: expr at depth 0. Conditions: at most 1000 names. -/
import Derived.Test.YtkjjagmpnnnimaaGreatDoorQ13
namespace Go.Proofs.YtkjjagmpnnnimaaGreatDoor
open Go.RowKit M

theorem ECon.mono {dep : Int} {L D L' D' : Nat} (h : ECon dep L D) (hL : L ≤ L') (hD : D ≤ D') : ECon dep L' D' := by
  intro w Pr X k fr t h1 h2 h3
  refine (h w Pr X k fr t h1 h2 (by omega)).mono ?_
  rintro e w' ⟨s, f, h4, h5, h6, h7, h8⟩
  exact ⟨s, f, h4, by omega, h6, by omega, h8⟩

set_option maxRecDepth 100000 in
set_option maxHeartbeats 6400000 in
theorem gexpr0 : ECon 0 9 0 := by
  intro w Pr X k fr t h hn hf
  have HS := Lib.hid h
  have HN := Lib.hid hn
  clear h hn
  go_enter Tryz.func17, Tryz.ntmps17
  go_wp2_with fail
  refine (gvariable _ HS.out HN.out (by omega)).mono ?_
  rintro e w1 ⟨s1, f1, rfl, hs1, hf1, hg1, hG1, hK1⟩
  have HG1 := Lib.hid hG1
  have HK1 := Lib.hid hK1
  have c1 := HG1.out.c0
  clear hG1 hK1
  cases hv : s1.toList.isEmpty
  case true =>
    go_wp2_with fail
    refine (gleaf _ HG1.out HN.out).mono ?_
    rintro e w2 ⟨s2, f2, rfl, hs2, hf2, hg2, hG2, hK2⟩
    go_wp2_with fail
    go_ret
    exact ⟨_, f2, rfl, by omega, by omega, by omega, hG2, HK1.out.trans hK2⟩
  case false =>
    go_wp2_with fail
    go_ret
    exact ⟨_, f1, rfl, by omega, by omega, by omega, HG1.out, HK1.out⟩

end Go.Proofs.YtkjjagmpnnnimaaGreatDoor
