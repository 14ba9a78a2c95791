/- The reference's Match, with what it finds. Condition: lists of nodes have a length. -/
import Derived.Test.YtcnanbmbdajcaaaDoorTyY6
import Derived.Test.YtcnanbmbdajcaaaDoorTyYA
import Derived.Test.YtcnanbmbdajcaaaDoorTyC
namespace Go.Proofs.YtcnanbmbdajcaaaDoor
open Go.RowKit M

set_option maxRecDepth 100000 in
set_option maxHeartbeats 6400000 in
theorem rMatch_any (w : World) (A : Option Addr) (n c : Nat) (ts : List TN) (hn : n = ts.length) (hl : n ≤ maxLen) (hc : n ≤ c) (hA : InC w A (ts.flatMap ndCells)) (B : Option Addr) (m cb : Nat) (us : List TN) (hm : m = us.length) (hml : m ≤ maxLen) (hmc : m ≤ cb) (hB : InC w B (us.flatMap ndCells)) :
    Calls Tryd.prog 21 #[.slice A n c, .slice B m cb] w (MPost2 ts us w) := by
  subst hn
  subst hm
  have HA := hide hA
  have HBB := hide hB
  unfold maxLen at hl hml
  clear hA hB
  go_enter Tryd.func21, Tryd.ntmps21
  go_wp2_with fail
  cases hv : valT ts
  · have HMM : Hid (matM ts us = false) := Lib.hid (by unfold matM; rw [hv]; rfl)
    refine (rvalid_b ts _ hv _ A c (by unfold maxLen; omega) (unhide HA)).mono ?_
    rintro e w1 ⟨rfl, hb1⟩
    have HB1 := hide hb1
    clear hb1
    go_wp2_with fail
    go_ret2
    exact MPost2.no HMM.out (unhide HB1)
  refine (rvalid_b ts _ hv _ A c (by unfold maxLen; omega) (unhide HA)).mono ?_
  rintro e w1 ⟨rfl, hb1⟩
  have HB1 := hide hb1
  have HU1 := hide ((unhide HBB).below hb1)
  clear hb1
  go_wp2_with fail
  cases hv2 : valT us
  · have HMM : Hid (matM ts us = false) := Lib.hid (by unfold matM; rw [hv2]; simp)
    refine (rvalid_b us _ hv2 _ B cb (by unfold maxLen; omega) (unhide HU1)).mono ?_
    rintro e w2 ⟨rfl, hb2⟩
    have HB2 := hide ((unhide HB1).trans (hb2.mono (unhide HB1).size))
    clear hb2
    go_wp2_with fail
    go_ret2
    exact MPost2.no HMM.out (unhide HB2)
  refine (rvalid_b us _ hv2 _ B cb (by unfold maxLen; omega) (unhide HU1)).mono ?_
  rintro e w2 ⟨rfl, hb2⟩
  have HB2 := hide ((unhide HB1).trans (hb2.mono (unhide HB1).size))
  have HT2 := hide ((unhide HA).below (unhide HB2))
  have HU2 := hide ((unhide HU1).below hb2)
  have hlt5 := valT_len hv
  have hlu5 := valT_len hv2
  have hz2 := (unhide HB2).size
  have hrep : Rep (([] : List BS).map mb) noE := ⟨List.Pairwise.nil, fun k => rfl⟩
  have hR := hide (rmatch_any 512 w2 none 0 [] noE A c ts B cb us hlt5 hlt5 hlu5 (by simp; omega) (by simp) hc hmc (full_valid hv) (full_valid hv2) (nodes_valid hv) (nodes_valid hv2) hrep (InB.none _) (unhide HT2) (unhide HU2))
  clear hb2 HB1 HU1 hrep HT2 HU2
  cases hmm : mtch ts us noE
  · have HMM : Hid (matM ts us = false) := Lib.hid (by unfold matM; rw [hv, hv2, hmm]; rfl)
    go_wp2_with fail
    refine (unhide hR).mono ?_
    rintro e w3 ⟨A3, c3, bs3, he3, hb3, -⟩
    rw [hmm] at he3
    subst he3
    have HB3 := hide ((unhide HB2).trans (hb3.mono hz2))
    clear hb3 hR hv hv2 hmm
    go_wp2_with fail
    go_ret2
    exact MPost2.no HMM.out (unhide HB3)
  · have HMM : Hid (matM ts us = true) := Lib.hid (by unfold matM; rw [hv, hv2, hmm]; rfl)
    go_wp2_with fail
    refine (unhide hR).mono ?_
    rintro e w3 ⟨A3, c3, bs3, he3, hb3, hp3⟩
    rw [hmm] at he3
    subst he3
    obtain ⟨q1, q2, q3, q4⟩ := hp3 hmm
    have HB3 := hide ((unhide HB2).trans (hb3.mono hz2))
    have HQ1 := hide q1
    have HQ2 := Lib.hid q2
    have hq5 : bs3.length ≤ 512 := by simp at q3; omega
    clear hb3 hR hv hv2 hmm hp3 q1 q2 q3 q4
    go_wp2_with fail
    go_ret2
    exact ⟨A3, c3, bs3, by rw [HMM.out]; rfl, unhide HQ1, hq5, unhide HB3, fun _ => HQ2.out, fun q => by rw [HMM.out] at q; cases q⟩

end Go.Proofs.YtcnanbmbdajcaaaDoor
