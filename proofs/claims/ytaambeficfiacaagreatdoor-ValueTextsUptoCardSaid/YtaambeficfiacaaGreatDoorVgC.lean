/- The statements' Value: a value that is nested at most so deep, and short. Condition: at most seven levels. -/
-- by tools/gen_vgc.py
import Derived.Test.YtaambeficfiacaaGreatDoorVgB
import Derived.Test.YtaambeficfiacaaGreatDoorVrO
namespace Go.Proofs.YtaambeficfiacaaGreatDoor
open Go.RowKit VM

theorem rboolB_any (b : Bool) (w : World) : Calls Tryz.prog 10 #[.bool b] w fun e w' => e = .returned (.string (boolB b)) ∧ Below w.heap.size w w' := rbool_any b w
set_option linter.unusedSimpArgs false in
set_option maxRecDepth 100000 in
set_option maxHeartbeats 6400000 in
theorem value_one : GvCon 1 := by
  intro D hD w g A n c hC hn
  obtain rfl : D = 1 := by omega
  have HC := hide hC
  have HN := Lib.hid hn
  have HG : Hid (w.grownBy w (some g)) := only_refl w (some g)
  clear hD hC hn
  go_enter Tryz.func5, Tryz.ntmps5
  go_wp2_with fail
  refine (next_st 9 9 rfl (by decide) (by decide) (unhide HC) HN.out).mono ?_
  rintro e w0 ⟨r0, hr0, rfl, hC0, hG0⟩
  have HC0 := hide hC0
  have HG0 := hide hG0
  clear hC0 hG0 HC HG
  have hq1 : ((r0 : Int).tmod 3) = ((r0 % 3 : Nat) : Int) := by rw [Int.tmod_eq_emod_of_nonneg (by omega)]; omega
  have hq2 : r0 % 3 < 3 := Nat.mod_lt _ (by decide)
  generalize r0 % 3 = q at *
  have hc : q = 0 ∨ q = 1 ∨ q = 2 := by omega
  rcases hc with rfl | rfl | rfl
  · go_wp2_with fail
    refine (number_st (unhide HC0) HN.out).mono ?_
    rintro e w1 ⟨z1, rfl, hz1, hy1, hC1, hG1⟩
    have HC1 := hide hC1
    have HG1 := hide (only_trans (unhide HG0) hG1)
    clear hC1 hG1
    go_wp2_with fail
    refine (rint_any z1 _).mono ?_
    rintro e w2 ⟨rfl, hb2⟩
    have HC2 := hide ((unhide HC1).below hb2)
    have HG2 := hide (only_trans (unhide HG1) (only_below hb2 _))
    clear hb2
    go_wp2_with fail
    go_ret
    exact ⟨_, rfl, val_int (by omega) _, unhide HC2, unhide HG2⟩
  · go_wp2_with fail
    refine (next_st 2 2 rfl (by decide) (by decide) (unhide HC0) HN.out).mono ?_
    rintro e w1 ⟨r1, hr1, rfl, hC1, hG1⟩
    have HC1 := hide hC1
    have HG1 := hide (only_trans (unhide HG0) hG1)
    clear hC1 hG1
    go_wp2_with fail
    refine (rboolB_any _ _).mono ?_
    rintro e w2 ⟨rfl, hb2⟩
    have HC2 := hide ((unhide HC1).below hb2)
    have HG2 := hide (only_trans (unhide HG1) (only_below hb2 _))
    clear hb2
    go_wp2_with fail
    go_ret
    exact ⟨_, rfl, val_bool (by omega) _, unhide HC2, unhide HG2⟩
  · go_wp2_with fail
    refine (next_st 4 4 rfl (by decide) (by decide) (unhide HC0) HN.out).mono ?_
    rintro e w1 ⟨r1, hr1, rfl, hC1, hG1⟩
    have HC1 := hide hC1
    have HG1 := hide (only_trans (unhide HG0) hG1)
    clear hC1 hG1
    go_wp2_with fail
    refine (rname_any r1 (by omega) _).mono ?_
    rintro e w2 ⟨rfl, hb2⟩
    have HC2 := hide ((unhide HC1).below hb2)
    have HG2 := hide (only_trans (unhide HG1) (only_below hb2 _))
    clear hb2
    go_wp2_with fail
    go_ret
    exact ⟨_, rfl, val_name (by omega) _, unhide HC2, unhide HG2⟩
set_option linter.unusedSimpArgs false in
set_option maxRecDepth 100000 in
set_option maxHeartbeats 12800000 in
theorem value_up (d : Nat) (hd : 1 ≤ d) (hd6 : d ≤ 6) (ih : GvCon d) : GvCon (d + 1) := by
  intro D hD w g A n c hC hn
  have IH := hide (ih (D - 1) (by omega))
  have IHS := hide (fun (M : Int) (m : Nat) hM => values_st d (by omega) ih (D - 1) M m (by omega) hM)
  have hD1 : 1 < D := by omega
  have hD2 : D ≤ 7 := by omega
  have g0 : decide (D ≤ 1) = false := decide_eq_false (by omega)
  obtain ⟨i0, hi0, hiz0, hiz1, hiz2⟩ := info_parts val_info
  have HC := hide hC
  have HN := Lib.hid hn
  have HG : Hid (w.grownBy w (some g)) := only_refl w (some g)
  clear hD hC hn ih
  go_enter Tryz.func5, Tryz.ntmps5
  go_wp2_with fail
  refine (next_st 9 9 rfl (by decide) (by decide) (unhide HC) HN.out).mono ?_
  rintro e w0 ⟨r0, hr0, rfl, hC0, hG0⟩
  have HC0 := hide hC0
  have HG0 := hide hG0
  clear hC0 hG0 HC HG
  have hc : r0 = 0 ∨ r0 = 1 ∨ r0 = 2 ∨ r0 = 3 ∨ r0 = 4 ∨ r0 = 5 ∨ r0 = 6 ∨ r0 = 7 ∨ r0 = 8 := by omega
  rcases hc with rfl | rfl | rfl | rfl | rfl | rfl | rfl | rfl | rfl
  · go_wp2_with fail
    refine (number_st (unhide HC0) HN.out).mono ?_
    rintro e w1 ⟨z1, rfl, hz1, hy1, hC1, hG1⟩
    have HC1 := hide hC1
    have HG1 := hide (only_trans (unhide HG0) hG1)
    clear hC1 hG1
    go_wp2_with fail
    refine (rint_any z1 _).mono ?_
    rintro e w2 ⟨rfl, hb2⟩
    have HC2 := hide ((unhide HC1).below hb2)
    have HG2 := hide (only_trans (unhide HG1) (only_below hb2 _))
    clear hb2
    go_wp2_with fail
    go_ret
    exact ⟨_, rfl, val_int (by omega) _, unhide HC2, unhide HG2⟩
  · go_wp2_with fail
    refine (next_st 2 2 rfl (by decide) (by decide) (unhide HC0) HN.out).mono ?_
    rintro e w1 ⟨r1, hr1, rfl, hC1, hG1⟩
    have HC1 := hide hC1
    have HG1 := hide (only_trans (unhide HG0) hG1)
    clear hC1 hG1
    go_wp2_with fail
    refine (rboolB_any _ _).mono ?_
    rintro e w2 ⟨rfl, hb2⟩
    have HC2 := hide ((unhide HC1).below hb2)
    have HG2 := hide (only_trans (unhide HG1) (only_below hb2 _))
    clear hb2
    go_wp2_with fail
    go_ret
    exact ⟨_, rfl, val_bool (by omega) _, unhide HC2, unhide HG2⟩
  · go_wp2_with fail
    refine (next_st 4 4 rfl (by decide) (by decide) (unhide HC0) HN.out).mono ?_
    rintro e w1 ⟨r1, hr1, rfl, hC1, hG1⟩
    have HC1 := hide hC1
    have HG1 := hide (only_trans (unhide HG0) hG1)
    clear hC1 hG1
    go_wp2_with fail
    refine (rname_any r1 (by omega) _).mono ?_
    rintro e w2 ⟨rfl, hb2⟩
    have HC2 := hide ((unhide HC1).below hb2)
    have HG2 := hide (only_trans (unhide HG1) (only_below hb2 _))
    clear hb2
    go_wp2_with fail
    go_ret
    exact ⟨_, rfl, val_name (by omega) _, unhide HC2, unhide HG2⟩
  · go_wp2_with fail
    refine ((unhide IH) _ g A n c (unhide HC0) HN.out).mono ?_
    rintro e w1 ⟨s1, rfl, hv1, hC1, hG1⟩
    have HV1 := Lib.hid hv1
    have HC1 := hide hC1
    have HG1 := hide (only_trans (unhide HG0) hG1)
    clear hv1 hC1 hG1
    go_wp2_with fail
    refine ((unhide IH) _ g A n c (unhide HC1) HN.out).mono ?_
    rintro e w2 ⟨s2, rfl, hv2, hC2, hG2⟩
    have HV2 := Lib.hid hv2
    have HC2 := hide hC2
    have HG2 := hide (only_trans (unhide HG1) hG2)
    clear hv2 hC2 hG2
    have HCa := hide ((unhide HC2).alloc (.cells #[.string s1, .string s2] 22))
    have HGa : Hid (w.grownBy (w2.alloc (.cells #[.string s1, .string s2] 22)) (some g)) := only_alloc (unhide HG2) _
    have HIa := hide (new_in w2 22 #[.string s1, .string s2])
    go_wp2_with fail
    refine (rmake_any 3 (by decide) [s1, s2] (some ⟨w2.heap.size, 0, none⟩) 2 2 _ rfl (by omega) (fun x hx => by simp at hx; rcases hx with rfl | rfl; (have := HV1.out.size (by omega); omega); (have := HV2.out.size (by omega); omega)) (unhide HIa)).mono ?_
    rintro e w3 ⟨rfl, hb3⟩
    have HC3 := hide ((unhide HCa).below hb3)
    have HG3 := hide (only_trans (unhide HGa) (only_below hb3 _))
    clear hb3
    go_wp2_with fail
    go_ret
    exact ⟨_, rfl, ok_tuple (by omega) (by omega) HV1.out HV2.out, unhide HC3, unhide HG3⟩
  · go_wp2_with fail
    have hgl1 := (unhide HC0).lt
    refine ((unhide IHS) 4 4 rfl (by decide) (by decide) _ g A n c (unhide HC0) HN.out).mono ?_
    rintro e w1 ⟨B1, cb1, L1, l1, rfl, hL1, hm1, hv1, hO1, hC1, hG1⟩
    have HL1 := Lib.hid hL1
    have HV1 := Lib.hid hv1
    have HI1 := hide (InC.own hO1)
    have HC1 := hide hC1
    have HG1 := hide (only_trans (unhide HG0) hG1)
    clear hL1 hv1 hO1 hC1 hG1
    go_wp2_with fail
    refine (rmake_any 4 (by decide) l1 B1 L1 cb1 _ HL1.out (by omega) (fun x hx => by have := (HV1.out x hx).size (by omega); omega) (unhide HI1)).mono ?_
    rintro e w2 ⟨rfl, hb2⟩
    have HC2 := hide ((unhide HC1).below hb2)
    have HG2 := hide (only_trans (unhide HG1) (only_below hb2 _))
    clear hb2
    go_wp2_with fail
    go_ret
    exact ⟨_, rfl, ok_seq (by omega) (by omega) HV1.out (by have := HL1.out; omega), unhide HC2, unhide HG2⟩
  · go_wp2_with fail
    have hgl1 := (unhide HC0).lt
    refine ((unhide IHS) 4 4 rfl (by decide) (by decide) _ g A n c (unhide HC0) HN.out).mono ?_
    rintro e w1 ⟨B1, cb1, L1, l1, rfl, hL1, hm1, hv1, hO1, hC1, hG1⟩
    have HL1 := Lib.hid hL1
    have HV1 := Lib.hid hv1
    have HI1 := hide (InC.own hO1)
    have HC1 := hide hC1
    have HG1 := hide (only_trans (unhide HG0) hG1)
    clear hL1 hv1 hO1 hC1 hG1
    go_wp2_with fail
    refine (rset_any l1 B1 L1 cb1 _ HL1.out (by omega) (fun x hx => by have := (HV1.out x hx).size (by omega); omega) (unhide HI1)).mono ?_
    rintro e w2 ⟨rfl, hb2⟩
    have HC2 := hide ((unhide HC1).below hb2)
    have HG2 := hide (only_trans (unhide HG1) (only_below hb2 _))
    clear hb2
    go_wp2_with fail
    go_ret
    exact ⟨_, rfl, ok_set (by omega) (by omega) HV1.out (by have := HL1.out; omega), unhide HC2, unhide HG2⟩
  · go_wp2_with fail
    refine (next_st 3 3 rfl (by decide) (by decide) (unhide HC0) HN.out).mono ?_
    rintro e w1 ⟨r1, hr1, rfl, hC1, hG1⟩
    have HC1 := hide hC1
    have HG1 := hide (only_trans (unhide HG0) hG1)
    clear hC1 hG1
    go_wp2_with fail
    have hgl2 := (unhide HC1).lt
    refine ((unhide IHS) 3 3 rfl (by decide) (by decide) _ g A n c (unhide HC1) HN.out).mono ?_
    rintro e w2 ⟨B2, cb2, L2, l2, rfl, hL2, hm2, hv2, hO2, hC2, hG2⟩
    have HL2 := Lib.hid hL2
    have HV2 := Lib.hid hv2
    have HI2 := hide (InC.own hO2)
    have HC2 := hide hC2
    have HG2 := hide (only_trans (unhide HG1) hG2)
    clear hL2 hv2 hO2 hC2 hG2
    go_wp2_with fail
    refine (rdot_any _ l2 B2 L2 cb2 _ HL2.out (by omega) (fun x hx => by have := (HV2.out x hx).size (by omega); omega) (unhide HI2)).mono ?_
    rintro e w3 ⟨rfl, hb3⟩
    have HC3 := hide ((unhide HC2).below hb3)
    have HG3 := hide (only_trans (unhide HG2) (only_below hb3 _))
    clear hb3
    go_wp2_with fail
    go_ret
    exact ⟨_, rfl, ok_dot (by omega) (by omega) HV2.out (by have := HL2.out; omega) (by omega), unhide HC3, unhide HG3⟩
  · go_wp2_with fail
    have hgl1 := (unhide HC0).lt
    refine ((unhide IHS) 3 3 rfl (by decide) (by decide) _ g A n c (unhide HC0) HN.out).mono ?_
    rintro e w1 ⟨B1, cb1, L1, l1, rfl, hL1, hm1, hv1, hO1, hC1, hG1⟩
    have HL1 := Lib.hid hL1
    have HV1 := Lib.hid hv1
    have HI1 := hide (InC.own hO1)
    have HC1 := hide hC1
    have HG1 := hide (only_trans (unhide HG0) hG1)
    clear hL1 hv1 hO1 hC1 hG1
    go_wp2_with fail
    have hgl9 := (unhide HC1).lt
    refine (rsort_any l1 B1 L1 cb1 _ HL1.out (by omega) (fun x hx => by have := (HV1.out x hx).size (by omega); omega) (unhide HI1)).mono ?_
    rintro e w5 ⟨B5, cb5, L5, rfl, hL5, hO5, hb5⟩
    have HO5 := hide hO5
    have hg5 : g < w5.heap.size := by have := hb5.size; omega
    have hl5 : L5 ≤ 2 := by have h1 := sortM_len l1; have h2 := HL1.out; omega
    have HL5 := Lib.hid hL5
    have HC5 := hide ((unhide HC1).below hb5)
    have HG5 := hide (only_trans (unhide HG1) (only_below hb5 _))
    have HVS : Hid (∀ s ∈ sortM l1, ValOK d s) := Lib.hid fun s hs => HV1.out s (sortM_mem.1 hs)
    have HAS : Hid (Asc (sortM l1)) := Lib.hid (sortM_asc l1)
    generalize sortM l1 = so at *
    clear hO5 hb5 hL5 HI1 HC1 HG1
    go_wp2_with fail
    go_loopw [7, 8] (fun vv iv wr => ∃ (i : Nat) (vs : List ByteArray), iv = .int .i64 i ∧ i ≤ L5 ∧ Hid (i = vs.length) ∧ Hid (∀ s ∈ vs, ValOK d s) ∧ Hid (wr.ownsRow w5.heap.size 22 1 vv i (vs.map Value.string)) ∧ Hid (CSt wr g A n c) ∧ Hid (w5.grownBy wr (some g))) (fun _ iv _ => L5 - (intOf iv).toNat)
    case atStart => exact ⟨0, [], rfl, by omega, rfl, fun s h => (by cases h), World.ownsRow_nil _ _ _ _, unhide HC5, only_refl _ _⟩
    case round =>
      obtain ⟨i, vs, rfl, hi, hil, hV, hO, hC, hG⟩ := hrel
      obtain ⟨A3, c3, rfl⟩ := owns_form hO.out
      by_cases hi5 : i < L5
      · go_wp2_with fail
        refine ((unhide IH) wr g A n c hC.out HN.out).mono ?_
        rintro e w3 ⟨s, rfl, hs3, hC3, hG3⟩
        have HS3 := Lib.hid hs3
        have HC3 := hide hC3
        have HO3 := hide (owns_other hO.out hG3 (row_g hO.out hg5))
        have HG3 := hide (only_trans hG.out hG3)
        clear hs3 hC3 hG3 hO hC hG
        have HO4 := hide ((unhide HO3).alloc (.cells #[.string s] 22))
        have hsz := (unhide HG3).size
        go_wp2_with (at_builtin; refine wpList_app _ rfl _ _ 36 rfl w5.heap.size 22 i0 _ 1 16 Tryz.underlying36 hi0 hiz0 hiz1 hiz2 rfl (by decide) _ i (vs.map Value.string) rfl (unhide HO4) (some ⟨w3.heap.size, 0, none⟩) 1 1 [.string s] rfl rfl (new_in w3 22 #[.string s]) (one_str s) (by unfold maxLen; omega) (by omega) (by simp; omega) ?_; intro v6 w6 hown6 hgrow6 _)
        have hall := grow_all (unhide HC3) (unhide HG3) hg5 s (unhide HO3) hgrow6
        have HC6 := hide hall.1
        have HG6 := hide hall.2
        have HO6 : Hid (w6.ownsRow w5.heap.size 22 1 v6 (i + 1) ((vs ++ [s]).map Value.string)) := hide (by rw [List.map_append]; exact hown6)
        have HV6 : Hid (∀ x ∈ vs ++ [s], ValOK d x) := Lib.hid (fun x hx => by
          rcases List.mem_append.1 hx with hx | hx
          · exact hV.out x hx
          · simp at hx; subst hx; exact HS3.out)
        clear hall hown6 hgrow6
        go_wp2_with fail
        go_roundw
        case rel => exact ⟨i + 1, vs ++ [s], by go_num, by omega, by rw [List.length_append, ← hil.out]; rfl, HV6.out, unhide HO6, unhide HC6, unhide HG6⟩
        case measure => simp [intOf]; omega
      · obtain rfl : i = L5 := by omega
        have HIK := hide (InC.own (owns_other (unhide HO5) hG.out (row_g (unhide HO5) hgl9)))
        have HIV := hide (InC.own hO.out)
        have HGE := hide (only_trans (unhide HG5) hG.out)
        have HLE : Hid (so.length = vs.length) := Lib.hid (by rw [← HL5.out, ← hil.out])
        go_wp2_with fail
        refine (rmap_any so vs B5 A3 i i cb5 c3 wr HL5.out hil.out (by omega) (by omega) (fun x hx => by have := (HVS.out x hx).size (by omega); omega) (fun x hx => by have := (hV.out x hx).size (by omega); omega) (unhide HIK) (unhide HIV)).mono ?_
        rintro e w8 ⟨rfl, hb8⟩
        have HC8 := hide (hC.out.below hb8)
        have HG8 := hide (only_trans (unhide HGE) (only_below hb8 _))
        clear hb8
        go_wp2_with fail
        go_ret
        exact ⟨_, rfl, ok_map (by omega) (by omega) HAS.out HLE.out HVS.out hV.out (by rw [← HL5.out]; exact hl5), unhide HC8, unhide HG8⟩
  · go_wp2_with fail
    refine (next_st 3 3 rfl (by decide) (by decide) (unhide HC0) HN.out).mono ?_
    rintro e w1 ⟨r1, hr1, rfl, hC1, hG1⟩
    have HC1 := hide hC1
    have HG1 := hide (only_trans (unhide HG0) hG1)
    clear hC1 hG1
    go_wp2_with fail
    have hgl2 := (unhide HC1).lt
    refine ((unhide IHS) 2 2 rfl (by decide) (by decide) _ g A n c (unhide HC1) HN.out).mono ?_
    rintro e w2 ⟨B2, cb2, L2, l2, rfl, hL2, hm2, hv2, hO2, hC2, hG2⟩
    have HL2 := Lib.hid hL2
    have HV2 := Lib.hid hv2
    have HI2 := hide (InC.own hO2)
    have HC2 := hide hC2
    have HG2 := hide (only_trans (unhide HG1) hG2)
    clear hL2 hv2 hO2 hC2 hG2
    go_wp2_with fail
    refine (rnumbered_any 8 (by decide) _ l2 B2 L2 cb2 _ HL2.out (by omega) (fun x hx => by have := (HV2.out x hx).size (by omega); omega) (unhide HI2)).mono ?_
    rintro e w3 ⟨rfl, hb3⟩
    have HC3 := hide ((unhide HC2).below hb3)
    have HG3 := hide (only_trans (unhide HG2) (only_below hb3 _))
    clear hb3
    go_wp2_with fail
    go_ret
    exact ⟨_, rfl, ok_fun (by omega) (by omega) HV2.out (by have := HL2.out; omega) (by omega), unhide HC3, unhide HG3⟩
theorem value_st : ∀ d, 1 ≤ d → d ≤ 7 → GvCon d
  | 0, h, _ => absurd h (by omega)
  | 1, _, _ => value_one
  | d + 2, _, h => value_up (d + 1) (by omega) (by omega) (value_st (d + 1) (by omega) (by omega))

end Go.Proofs.YtaambeficfiacaaGreatDoor
