/- TypesNeeds: Needs is what the document asks, for the nodes that come in and for a type of at most three variables. Conditions: lists have a length. -/
import Derived.Test.YtgdmmkgdnfkadaaDoorTyG
import Derived.Test.YtgdmmkgdnfkadaaDoorTyU
import Derived.Test.YtgdmmkgdnfkadaaDoorTyAw
namespace Go.Proofs.YtgdmmkgdnfkadaaDoor
open Go.RowKit M

theorem typ4_3 : TypCon 4 3 := typ_up 3 3 (by decide) (by decide) (by decide) (typ_up 2 3 (by decide) (by decide) (by decide) (typ_up 1 3 (by decide) (by decide) (by decide) (typ_one 3 (by decide))))
theorem row_cap {w : World} {b : Nat} {e : TypeId} {z n c : Nat} {A : Option Addr} {xs : List Value} (h : w.ownsRow b e z (.slice A n c) n xs) : n ≤ c := by
  rcases h.2 with ⟨q, hz⟩ | ⟨g', cap, cur, q, _, _, hc, _⟩
  · rw [hz]; exact Nat.zero_le _
  · injection q with q1 q2 q3
    rw [q3]; exact hc
theorem resN_len (ts : List TN) (c : Int) : (resN ts c).length ≤ 512 := by
  unfold resN
  split
  · rename_i h
    have h1 := h.1
    unfold okN at h1
    simp only [Bool.and_eq_true] at h1
    exact Nat.le_trans (needV_len ts) (valT_len h1.2.1)
  · simp

set_option maxRecDepth 100000 in
set_option maxHeartbeats 12800000 in
theorem typesNeeds_any (w : World) (T : Option Addr) (m cm : Nat) (ts : List TN) (hm : m = ts.length) (hml : m ≤ maxLen) (hmc : m ≤ cm) (hT : InC w T (ts.flatMap ndCells))
    (A1 : Option Addr) (n1 c1 : Nat) (h1 : InInts w A1 n1) (hn1 : n1 ≤ maxLen) (c : Int) :
    Calls Tryd.prog 10 #[.slice T m cm, .slice A1 n1 c1, .int .i64 c] w fun e w' => e = .returned (.bool true) ∧ Below w.heap.size w w' := by
  have HT := hide hT
  have H1 := hide h1
  have HM := Lib.hid hm
  have HML := Lib.hid hml
  have HMC := Lib.hid hmc
  have HN1 := Lib.hid hn1
  have hrl := resN_len ts c
  have hne : (okN ts c != okN ts c) = false := by simp
  clear hT h1 hm hml hn1 hmc
  go_enter Tryd.func10, Tryd.ntmps10
  go_wp2_with fail
  refine (new_cho _ A1 n1 c1).mono ?_
  rintro e w1 ⟨rfl, hw1⟩
  have HC1 : Hid (CSt w1 w.heap.size A1 n1 c1) := by rw [hw1]; exact CSt.start (unhide H1)
  have HB1 : Hid (Below w.heap.size w w1) := by rw [hw1]; exact (Below.refl _ _).alloc (Nat.le_refl _) _
  clear hw1
  go_wp2_with fail
  refine (typ4_3 4 rfl w1 w.heap.size A1 n1 c1 (unhide HC1) HN1.out).mono ?_
  rintro e w5 ⟨v5, us, rfl, hO5, hT5, hC5, hG5⟩
  obtain ⟨A5, c5, rfl⟩ := owns_form hO5
  have HB5 := hide (below_grown (unhide HB1) hG5 (Nat.le_refl _) (Nat.le_refl _))
  have HU5 := hide (InC.own hO5)
  have huc := Lib.hid (row_cap hO5)
  have hul : us.length ≤ 512 := by have := hT5.2.1; omega
  have hul2 := Lib.hid (show us.length ≤ maxLen by unfold maxLen; omega)
  clear hO5 hT5 hC5 hG5 HC1 HB1
  go_wp2_with fail
  refine (needs_any _ T m cm c ts HM.out HML.out HMC.out ((unhide HT).below (unhide HB5))).mono ?_
  rintro e w6 ⟨v6, rfl, hO6, hb6⟩
  have HB6 := hide ((unhide HB5).trans (hb6.mono (unhide HB5).size))
  have HU6 := hide ((unhide HU5).below hb6)
  obtain ⟨A6, c6, rfl⟩ := owns_form hO6
  have HR6 := hide (InC.own hO6)
  clear hO6 hb6 HB5 HU5
  go_wp2_with fail
  refine (rneeds_any _ T m cm c ts HM.out HML.out ((unhide HT).below (unhide HB6))).mono ?_
  rintro e w7 ⟨v7, rfl, hO7, hb7⟩
  have HB7 := hide ((unhide HB6).trans (hb7.mono (unhide HB6).size))
  have HU7 := hide ((unhide HU6).below hb7)
  have HR67 := hide ((unhide HR6).below hb7)
  obtain ⟨A7, c7, rfl⟩ := owns_form hO7
  have HR7 := hide (InC.own hO7)
  clear hO7 hb7 HB6 HU6 HR6
  generalize okN ts c = ok at *
  generalize hrs : resN ts c = rs at *
  clear hrs
  go_wp2_with fail
  refine (awake_any _).mono ?_
  rintro e w8 ⟨rfl, hb8⟩
  have HB8 := hide ((unhide HB7).trans (hb8.mono (unhide HB7).size))
  have HU8 := hide ((unhide HU7).below hb8)
  have HR68 := hide ((unhide HR67).below hb8)
  have HR78 := hide ((unhide HR7).below hb8)
  clear hb8 HB7 HU7 HR67 HR7
  go_wp2_with fail
  refine (equal_needs c rs rs.length rfl (by omega) A6 A7 c6 c7 w8 (unhide HR68) (unhide HR78)).mono ?_
  rintro e w9 ⟨rfl, m9, rfl⟩
  have HB9 : Hid (Below w.heap.size w (w8.drewN m9)) := below_drewN (unhide HB8) m9
  have HU9 : Hid (InC (w8.drewN m9) A5 (us.flatMap ndCells)) := (unhide HU8).drewN m9
  clear HB8 HU8 HR68 HR78
  go_wp2_with fail
  go_loopw [12] (fun i wr => ∃ k : Int, i = .int .i64 k ∧ -1 ≤ k ∧ k ≤ 9 ∧ Hid (Below w.heap.size w wr) ∧ Hid (InC wr A5 (us.flatMap ndCells))) (fun i _ => (9 - intOf i).toNat)
  case atStart => exact ⟨-1, rfl, by omega, by omega, unhide HB9, unhide HU9⟩
  case round =>
    obtain ⟨k, rfl, hk1, hk9, hB, hU⟩ := hrel
    by_cases hlt : k < 9
    · have hrl2 := resN_len us k
      have hne2 : (okN us k != okN us k) = false := by simp
      go_wp2_with fail
      refine (needs_any _ A5 us.length c5 k us rfl hul2.out huc.out hU.out).mono ?_
      rintro e x6 ⟨v6, rfl, hO6, hb6⟩
      have HX6 := hide (hB.out.trans (hb6.mono hB.out.size))
      have HV6 := hide ((unhide hU).below hb6)
      obtain ⟨D6, d6, rfl⟩ := owns_form hO6
      have HR6 := hide (InC.own hO6)
      clear hO6 hb6
      go_wp2_with fail
      refine (rneeds_any _ A5 us.length c5 k us rfl hul2.out (unhide HV6)).mono ?_
      rintro e x7 ⟨v7, rfl, hO7, hb7⟩
      have HX7 := hide ((unhide HX6).trans (hb7.mono (unhide HX6).size))
      have HV7 := hide ((unhide HV6).below hb7)
      have HR67 := hide ((unhide HR6).below hb7)
      obtain ⟨D7, d7, rfl⟩ := owns_form hO7
      have HR7 := hide (InC.own hO7)
      clear hO7 hb7 HX6 HV6 HR6
      generalize okN us k = ok2 at *
      generalize hrs : resN us k = rs2 at *
      clear hrs
      go_wp2_with fail
      refine (equal_needs k rs2 rs2.length rfl (by omega) D6 D7 d6 d7 x7 (unhide HR67) (unhide HR7)).mono ?_
      rintro e x9 ⟨rfl, m9, rfl⟩
      have HX9 : Hid (Below w.heap.size w (x7.drewN m9)) := below_drewN (unhide HX7) m9
      have HV9 : Hid (InC (x7.drewN m9) A5 (us.flatMap ndCells)) := (unhide HV7).drewN m9
      clear HX7 HV7 HR67 HR7
      go_wp2_with fail
      go_roundw
      case rel => exact ⟨k + 1, by go_num, by omega, by omega, unhide HX9, unhide HV9⟩
      case measure => simp [intOf]; omega
    · go_wp2_with fail
      go_ret
      exact ⟨rfl, hB.out⟩

end Go.Proofs.YtgdmmkgdnfkadaaDoor
