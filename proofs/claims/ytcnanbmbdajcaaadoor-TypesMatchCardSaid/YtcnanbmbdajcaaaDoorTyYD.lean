/- TypesMatch returns true: Match is what the document asks, and every instance of a type matches it. Conditions: lists have a length. -/
-- by tools/gen_tmatch.py
import Derived.Test.YtcnanbmbdajcaaaDoorTyG
import Derived.Test.YtcnanbmbdajcaaaDoorTyYB
import Derived.Test.YtcnanbmbdajcaaaDoorTyYC
import Derived.Test.YtcnanbmbdajcaaaDoorTyK
import Derived.Test.YtcnanbmbdajcaaaDoorTyAw
namespace Go.Proofs.YtcnanbmbdajcaaaDoor
open Go.RowKit M

theorem typ23 : TypCon 2 3 := typ_up 1 3 (by decide) (by decide) (by decide) (typ_one 3 (by decide))
theorem typ33 : TypCon 3 3 := typ_up 2 3 (by decide) (by decide) (by decide) typ23
theorem valT_mx {d V : Nat} {ts : List TN} (hd : d ≤ 3) (h : TyOK d V ts) : ts.length ≤ 512 ∧ valT ts = true := by
  have h1 := h.2.1
  have h4 : 2 ^ d ≤ 2 ^ 3 := Nat.pow_le_pow_right (by decide) hd
  have h3 : ts.length ≤ 512 := by omega
  exact ⟨h3, valT_of (by omega : d ≤ 64) h.1 h3⟩
theorem appM_len (s : List Bd) (ts : List TN) : (applyM s ts).length ≤ 512 := by
  unfold applyM
  split
  · rename_i h
    rw [Bool.and_eq_true, Bool.and_eq_true] at h
    exact valT_len h.2.2
  · simp

set_option maxRecDepth 100000 in
set_option maxHeartbeats 12800000 in
theorem typesMatch_any (w : World) (A : Option Addr) (n c : Nat) (tas : List TN) (hn : n = tas.length) (hl : n ≤ maxLen) (hc : n ≤ c) (hA : InC w A (tas.flatMap ndCells)) (B : Option Addr) (m cb : Nat) (bs : List TN) (hm : m = bs.length) (hml : m ≤ maxLen) (hmc : m ≤ cb) (hB : InC w B (bs.flatMap ndCells))
    (A1 : Option Addr) (n1 c1 : Nat) (h1 : InInts w A1 n1) (hn1 : n1 ≤ maxLen) (A2 : Option Addr) (n2 c2 : Nat) (h2 : InInts w A2 n2) (hn2 : n2 ≤ maxLen) :
    Calls Tryd.prog 4 #[.slice A n c, .slice B m cb, .slice A1 n1 c1, .slice A2 n2 c2] w fun e w' => e = .returned (.bool true) ∧ Below w.heap.size w w' := by
  have HA0 := hide hA
  have HB0 := hide hB
  have H1 := hide h1
  have H2 := hide h2
  have HN := Lib.hid hn
  have HL := Lib.hid hl
  have HM := Lib.hid hm
  have HML := Lib.hid hml
  have HN1 := Lib.hid hn1
  have HN2 := Lib.hid hn2
  clear hA hB h1 h2 hn hl hm hml hn1 hn2
  go_enter Tryd.func4, Tryd.ntmps4
  go_wp2_with fail
  refine (new_cho _ A1 n1 c1).mono ?_
  rintro e w1 ⟨rfl, hw1⟩
  have HC1 : Hid (CSt w1 w.heap.size A1 n1 c1) := by rw [hw1]; exact CSt.start (unhide H1)
  have HB1 : Hid (Below w.heap.size w w1) := by rw [hw1]; exact (Below.refl _ _).alloc (Nat.le_refl _) _
  clear hw1
  go_wp2_with fail
  refine (typ33 3 rfl w1 w.heap.size A1 n1 c1 (unhide HC1) HN1.out).mono ?_
  rintro e w2 ⟨v2, ps, rfl, hO2, hT2, hC2, hG2⟩
  obtain ⟨A3, c3, rfl⟩ := owns_form hO2
  have HB2 := hide (below_grown (unhide HB1) hG2 (Nat.le_refl _) (Nat.le_refl _))
  have HP2 := hide (InC.own hO2)
  have hpc := row_le2 hO2
  have hpl := (valT_mx (by decide) hT2).1
  have HVP := Lib.hid (valT_mx (by decide) hT2).2
  have H22 := hide ((unhide H2).below (unhide HB2))
  have hz2 := (unhide HB2).size
  clear hO2 hT2 hC2 hG2 HC1 HB1
  go_wp2_with fail
  refine (new_cho _ A2 n2 c2).mono ?_
  rintro e w3 ⟨rfl, hw3⟩
  have HC3 : Hid (CSt w3 w2.heap.size A2 n2 c2) := by rw [hw3]; exact CSt.start (unhide H22)
  have hb3 : Below w2.heap.size w2 w3 := by rw [hw3]; exact (Below.refl _ _).alloc (Nat.le_refl _) _
  have HB3 := hide ((unhide HB2).trans (hb3.mono hz2))
  have HK3 := hide hb3
  clear hw3 hb3
  go_wp2_with fail
  refine (typ33 3 rfl w3 w2.heap.size A2 n2 c2 (unhide HC3) HN2.out).mono ?_
  rintro e w4 ⟨v4, qs, rfl, hO4, hT4, hC4, hG4⟩
  obtain ⟨A4, c4, rfl⟩ := owns_form hO4
  have hK4 := below_grown (unhide HK3) hG4 (Nat.le_refl _) (Nat.le_refl _)
  have HB4 := hide (below_grown (unhide HB3) hG4 hz2 (Nat.le_refl _))
  have HP4 := hide ((unhide HP2).below hK4)
  have HQ4 := hide (InC.own hO4)
  have hqc := row_le2 hO4
  have hql := (valT_mx (by decide) hT4).1
  have hpm := Lib.hid (show ps.length ≤ maxLen by unfold maxLen; omega)
  have hqm := Lib.hid (show qs.length ≤ maxLen by unfold maxLen; omega)
  have HX4 := hide ((unhide HA0).below (unhide HB4))
  have HY4 := hide ((unhide HB0).below (unhide HB4))
  clear hO4 hT4 hC4 hG4 hK4 HC3 HB3 HB2 HP2 HK3 H22 HA0 HB0
  go_wp2_with fail
  refine (match2_any w4 A n c tas HN.out HL.out hc (unhide HX4) B m cb bs HM.out HML.out hmc (unhide HY4)).mono ?_
  rintro e w5 ⟨A5, c5, bs5, rfl, hi5, hl5, hb5, hr5, hf5⟩
  have HB5 := hide ((unhide HB4).trans (hb5.mono (unhide HB4).size))
  have HP5 := hide ((unhide HP4).below hb5)
  have HQ5 := hide ((unhide HQ4).below hb5)
  have HX5 := hide ((unhide HX4).below hb5)
  have HY5 := hide ((unhide HY4).below hb5)
  clear HB4 HP4 HQ4 HX4 HY4
  have HS5 := hide hi5
  have HSR := Lib.hid hr5
  have HSF := Lib.hid hf5
  clear hi5 hb5 hr5 hf5
  go_wp2_with fail
  refine (rMatch_any w5 A n c tas HN.out HL.out hc (unhide HX5) B m cb bs HM.out HML.out hmc (unhide HY5)).mono ?_
  rintro e w6 ⟨A6, c6, bs6, rfl, hi6, hl6, hb6, hr6, hf6⟩
  have HB6 := hide ((unhide HB5).trans (hb6.mono (unhide HB5).size))
  have HP6 := hide ((unhide HP5).below hb6)
  have HQ6 := hide ((unhide HQ5).below hb6)
  have HX6 := hide ((unhide HX5).below hb6)
  have HY6 := hide ((unhide HY5).below hb6)
  have HS6 := hide ((unhide HS5).below hb6)
  clear HB5 HP5 HQ5 HX5 HY5 HS5
  have HT6 := hide hi6
  have HTR := Lib.hid hr6
  have HTF := Lib.hid hf6
  clear hi6 hb6 hr6 hf6
  go_wp2_with fail
  refine (match2_any w6 A3 ps.length c3 ps rfl hpm.out hpc (unhide HP6) A4 qs.length c4 qs rfl hqm.out hqc (unhide HQ6)).mono ?_
  rintro e w7 ⟨A7, c7, bs7, rfl, hi7, hl7, hb7, hr7, hf7⟩
  have HB7 := hide ((unhide HB6).trans (hb7.mono (unhide HB6).size))
  have HP7 := hide ((unhide HP6).below hb7)
  have HQ7 := hide ((unhide HQ6).below hb7)
  have HX7 := hide ((unhide HX6).below hb7)
  have HY7 := hide ((unhide HY6).below hb7)
  have HS7 := hide ((unhide HS6).below hb7)
  have HT7 := hide ((unhide HT6).below hb7)
  clear HB6 HP6 HQ6 HX6 HY6 HS6 HT6
  have HU7 := hide hi7
  have HUR := Lib.hid hr7
  have HUF := Lib.hid hf7
  clear hi7 hb7 hr7 hf7
  go_wp2_with fail
  refine (rMatch_any w7 A3 ps.length c3 ps rfl hpm.out hpc (unhide HP7) A4 qs.length c4 qs rfl hqm.out hqc (unhide HQ7)).mono ?_
  rintro e w8 ⟨A8, c8, bs8, rfl, hi8, hl8, hb8, hr8, hf8⟩
  have HB8 := hide ((unhide HB7).trans (hb8.mono (unhide HB7).size))
  have HP8 := hide ((unhide HP7).below hb8)
  have HQ8 := hide ((unhide HQ7).below hb8)
  have HX8 := hide ((unhide HX7).below hb8)
  have HY8 := hide ((unhide HY7).below hb8)
  have HS8 := hide ((unhide HS7).below hb8)
  have HT8 := hide ((unhide HT7).below hb8)
  have HU8 := hide ((unhide HU7).below hb8)
  clear HB7 HP7 HQ7 HX7 HY7 HS7 HT7 HU7
  have HV8 := hide hi8
  have HVR := Lib.hid hr8
  have HVF := Lib.hid hf8
  clear hi8 hb8 hr8 hf8
  have HSM1 := Lib.hid (found_small HSR.out HSF.out)
  have HSE1 := Lib.hid (found_same HSR.out HSF.out HTR.out HTF.out)
  have HSM2 := Lib.hid (found_small HUR.out HUF.out)
  have HSE2 := Lib.hid (found_same HUR.out HUF.out HVR.out HVF.out)
  clear HSR HSF HTR HTF HUR HUF HVR HVF
  generalize matM tas bs = mx at *
  generalize matM ps qs = my at *
  go_wp2_with fail
  refine (awake_any _).mono ?_
  rintro e w9 ⟨rfl, hb9⟩
  have HB9 := hide ((unhide HB8).trans (hb9.mono (unhide HB8).size))
  have HP9 := hide ((unhide HP8).below hb9)
  have HQ9 := hide ((unhide HQ8).below hb9)
  have HX9 := hide ((unhide HX8).below hb9)
  have HY9 := hide ((unhide HY8).below hb9)
  have HS9 := hide ((unhide HS8).below hb9)
  have HT9 := hide ((unhide HT8).below hb9)
  have HU9 := hide ((unhide HU8).below hb9)
  have HV9 := hide ((unhide HV8).below hb9)
  clear HB8 HP8 HQ8 HX8 HY8 HS8 HT8 HU8 HV8
  clear hb9
  have gx : (mx == mx) = true := beq_self_eq_true _
  have gy : (my == my) = true := beq_self_eq_true _
  go_wp2_with fail
  refine (same_any _ A5 bs5.length c5 bs5 A6 bs6.length c6 bs6 rfl rfl hl5 HSE1.out HSM1.out (unhide HS9) (unhide HT9)).mono ?_
  rintro e w10 ⟨rfl, hb10⟩
  have HB10 := hide ((unhide HB9).trans (hb10.mono (unhide HB9).size))
  have HP10 := hide ((unhide HP9).below hb10)
  have HQ10 := hide ((unhide HQ9).below hb10)
  have HX10 := hide ((unhide HX9).below hb10)
  have HY10 := hide ((unhide HY9).below hb10)
  have HS10 := hide ((unhide HS9).below hb10)
  have HT10 := hide ((unhide HT9).below hb10)
  have HU10 := hide ((unhide HU9).below hb10)
  have HV10 := hide ((unhide HV9).below hb10)
  clear HB9 HP9 HQ9 HX9 HY9 HS9 HT9 HU9 HV9
  clear hb10
  go_wp2_with fail
  refine (same_any _ A7 bs7.length c7 bs7 A8 bs8.length c8 bs8 rfl rfl hl7 HSE2.out HSM2.out (unhide HU10) (unhide HV10)).mono ?_
  rintro e w11 ⟨rfl, hb11⟩
  have HB11 := hide ((unhide HB10).trans (hb11.mono (unhide HB10).size))
  have HP11 := hide ((unhide HP10).below hb11)
  have HQ11 := hide ((unhide HQ10).below hb11)
  have HX11 := hide ((unhide HX10).below hb11)
  have HY11 := hide ((unhide HY10).below hb11)
  have HS11 := hide ((unhide HS10).below hb11)
  have HT11 := hide ((unhide HT10).below hb11)
  have HU11 := hide ((unhide HU10).below hb11)
  have HV11 := hide ((unhide HV10).below hb11)
  clear HB10 HP10 HQ10 HX10 HY10 HS10 HT10 HU10 HV10
  clear hb11
  have H211 := hide ((unhide H2).below (unhide HB11))
  have hz11 := (unhide HB11).size
  clear HS11 HT11 HU11 HV11 HQ11 HX11 HY11 HSM1 HSE1 HSM2 HSE2
  go_wp2_with fail
  refine (new_cho _ A2 n2 c2).mono ?_
  rintro e w12 ⟨rfl, hw12⟩
  have HC12 : Hid (CSt w12 w11.heap.size A2 n2 c2) := by rw [hw12]; exact CSt.start (unhide H211)
  have hb12 : Below w11.heap.size w11 w12 := by rw [hw12]; exact (Below.refl _ _).alloc (Nat.le_refl _) _
  have hgb12 : w11.heap.size < w12.heap.size := by rw [hw12]; simp
  have HK12 := hide hb12
  clear hw12 hb12
  go_wp2_with fail
  refine (typ33 3 rfl w12 w11.heap.size A2 n2 c2 (unhide HC12) HN2.out).mono ?_
  rintro e w13 ⟨v13, ts13, rfl, hO13, hT13, hC13, hG13⟩
  obtain ⟨A13, c13, rfl⟩ := owns_form hO13
  have HK13 := hide (below_grown (unhide HK12) hG13 (Nat.le_refl _) (Nat.le_refl _))
  have HR13_13 := hide hO13
  have HC13 := hide hC13
  have hx13 := (valT_mx (by decide) hT13).1
  have hgb13 : w11.heap.size < w13.heap.size := Nat.lt_of_lt_of_le hgb12 hG13.size
  clear hO13 hT13 hC13 hG13 HC12 HK12 
  go_wp2_with fail
  refine (typ23 2 rfl w13 w11.heap.size A2 n2 c2 (unhide HC13) HN2.out).mono ?_
  rintro e w14 ⟨v14, ts14, rfl, hO14, hT14, hC14, hG14⟩
  obtain ⟨A14, c14, rfl⟩ := owns_form hO14
  have HK14 := hide (below_grown (unhide HK13) hG14 (Nat.le_refl _) (Nat.le_refl _))
  have HR13_14 := hide (owns_other (unhide HR13_13) hG14 (row_g (unhide HR13_13) (by omega)))
  have HR14_14 := hide hO14
  have HC14 := hide hC14
  have hx14 := (valT_mx (by decide) hT14).1
  have hgb14 : w11.heap.size < w14.heap.size := Nat.lt_of_lt_of_le hgb13 hG14.size
  clear hO14 hT14 hC14 hG14 HC13 HK13 HR13_13
  go_wp2_with fail
  refine (typ23 2 rfl w14 w11.heap.size A2 n2 c2 (unhide HC14) HN2.out).mono ?_
  rintro e w15 ⟨v15, ts15, rfl, hO15, hT15, hC15, hG15⟩
  obtain ⟨A15, c15, rfl⟩ := owns_form hO15
  have HK15 := hide (below_grown (unhide HK14) hG15 (Nat.le_refl _) (Nat.le_refl _))
  have HR13_15 := hide (owns_other (unhide HR13_14) hG15 (row_g (unhide HR13_14) (by omega)))
  have HR14_15 := hide (owns_other (unhide HR14_14) hG15 (row_g (unhide HR14_14) (by omega)))
  have HR15_15 := hide hO15
  have HC15 := hide hC15
  have hx15 := (valT_mx (by decide) hT15).1
  have hgb15 : w11.heap.size < w15.heap.size := Nat.lt_of_lt_of_le hgb14 hG15.size
  clear hO15 hT15 hC15 hG15 HC14 HK14 HR13_14 HR14_14
  go_wp2_with fail
  have hal : Below w15.heap.size w15 (w15.alloc (.cells #[.int .i64 0, .slice A13 ts13.length c13, .int .i64 1, .slice A14 ts14.length c14, .int .i64 2, .slice A15 ts15.length c15] 43)) := (Below.refl _ _).alloc (Nat.le_refl _) _
  obtain ⟨rs, hrs⟩ : ∃ rs : List BS, rs = [((0 : Int), A13, c13, ts13), ((1 : Int), A14, c14, ts14), ((2 : Int), A15, c15, ts15)] := ⟨_, rfl⟩
  have hRI : InB (w15.alloc (.cells #[.int .i64 0, .slice A13 ts13.length c13, .int .i64 1, .slice A14 ts14.length c14, .int .i64 2, .slice A15 ts15.length c15] 43)) (some ⟨w15.heap.size, 0, none⟩) rs := by
    rw [hrs]
    refine ⟨new_in w15 43 #[.int .i64 0, .slice A13 ts13.length c13, .int .i64 1, .slice A14 ts14.length c14, .int .i64 2, .slice A15 ts15.length c15], fun b hb => ?_⟩
    simp at hb
    rcases hb with rfl | rfl | rfl
    · exact ⟨(InC.own (unhide HR13_15)).below hal, by unfold maxLen; show ts13.length ≤ _; omega, row_le2 (unhide HR13_15)⟩
    · exact ⟨(InC.own (unhide HR14_15)).below hal, by unfold maxLen; show ts14.length ≤ _; omega, row_le2 (unhide HR14_15)⟩
    · exact ⟨(InC.own (unhide HR15_15)).below hal, by unfold maxLen; show ts15.length ≤ _; omega, row_le2 (unhide HR15_15)⟩
  have HRI := hide hRI
  have hrl : rs.length = 3 := by rw [hrs]; rfl
  have HRL := Lib.hid hrl
  have HK16 := hide ((unhide HK15).trans (hal.mono (Nat.le_of_lt hgb15)))
  have HB16 := hide ((unhide HB11).trans ((unhide HK16).mono hz11))
  have HP16 := hide ((unhide HP11).below (unhide HK16))
  clear hal hRI hrl hrs HB11 HP11 HK15 HK16 HC15 HR13_15 HR14_15 HR15_15
  generalize hwe : w15.alloc (.cells #[.int .i64 0, .slice A13 ts13.length c13, .int .i64 1, .slice A14 ts14.length c14, .int .i64 2, .slice A15 ts15.length c15] 43) = w16 at *
  generalize hbe : w15.heap.size = b16 at *
  clear hwe hbe
  try clear hgb12 hgb13 hgb14 hgb15
  refine (rapply_any w16 (some ⟨b16, 0, none⟩) 3 3 rs HRL.out.symm (by unfold maxLen; omega) (unhide HRI) A3 ps.length c3 ps rfl hpm.out (unhide HP16)).mono ?_
  rintro e w17 ⟨v17, rfl, hO17, hb17⟩
  have HB17 := hide ((unhide HB16).trans (hb17.mono (unhide HB16).size))
  have HP17 := hide ((unhide HP16).below hb17)
  clear HB16 HP16
  obtain ⟨A17, c17, rfl⟩ := owns_form hO17
  have HI17 := hide (InC.own hO17)
  have hic := row_le2 hO17
  have hil := appM_len (rs.map mb) ps
  obtain ⟨is, his⟩ : ∃ is, applyM (rs.map mb) ps = is := ⟨_, rfl⟩
  rw [his] at HI17 hic hil
  have HIS := Lib.hid his
  clear hO17 hb17
  rw [his]
  clear his
  by_cases hnil : is.length = 0
  · have g1 : ((is.length : Int) == 0) = true := by rw [hnil]; rfl
    go_wp2_with fail
    go_ret
    exact ⟨rfl, unhide HB17⟩
  have hpos : 0 < is.length := by omega
  have g1 : ((is.length : Int) == 0) = false := beq_eq_false_iff_ne.2 (by omega)
  have HMI := Lib.hid (match_instance HIS.out (by rintro rfl; exact hnil rfl))
  have him := Lib.hid (show is.length ≤ maxLen by unfold maxLen; omega)
  clear hnil
  go_wp2_with fail
  refine (match2_any w17 A3 ps.length c3 ps rfl hpm.out hpc (unhide HP17) A17 is.length c17 is rfl him.out hic (unhide HI17)).mono ?_
  rintro e w18 ⟨A18, c18, bs18, rfl, hi18, hl18, hb18, hr18, hf18⟩
  have HB18 := hide ((unhide HB17).trans (hb18.mono (unhide HB17).size))
  have HP18 := hide ((unhide HP17).below hb18)
  have HI18 := hide ((unhide HI17).below hb18)
  clear HB17 HP17 HI17
  have HM18 := hide hi18
  have HAP := Lib.hid (HMI.out.2 _ (hr18 HMI.out.1))
  rw [HMI.out.1]
  have hl18m := Lib.hid (show bs18.length ≤ maxLen by unfold maxLen; omega)
  clear hi18 hb18 hr18 hf18
  go_wp2_with fail
  refine (apply_any w18 A18 bs18.length c18 bs18 rfl hl18m.out (unhide HM18) A3 ps.length c3 ps rfl hpm.out hpc (unhide HP18)).mono ?_
  rintro e w19 ⟨v19, rfl, hO19, hb19⟩
  rw [HAP.out] at hO19
  have HB19 := hide ((unhide HB18).trans (hb19.mono (unhide HB18).size))
  have HP19 := hide ((unhide HP18).below hb19)
  have HI19 := hide ((unhide HI18).below hb19)
  have HM19 := hide ((unhide HM18).below hb19)
  clear HB18 HP18 HI18 HM18
  obtain ⟨A19, c19, rfl⟩ := owns_form hO19
  have HZ19 := hide (InC.own hO19)
  clear hO19 hb19
  go_wp2_with fail
  refine (equal_nodes is is.length rfl (by omega) A19 A17 c19 c17 w19 (unhide HZ19) (unhide HI19)).mono ?_
  rintro e w20 ⟨rfl, q20, rfl⟩
  go_wp2_with fail
  go_ret
  exact ⟨rfl, below_drewN (unhide HB19) _⟩

end Go.Proofs.YtcnanbmbdajcaaaDoor
