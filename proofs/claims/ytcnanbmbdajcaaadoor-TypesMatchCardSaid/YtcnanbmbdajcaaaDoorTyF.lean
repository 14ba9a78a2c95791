/- The statements' types: what typ returns at depth 1. Condition: at most 1000 variables. -/
import Derived.Test.YtcnanbmbdajcaaaDoorTyE
import Derived.Deep.RegionHeld3
namespace Go.Proofs.YtcnanbmbdajcaaaDoor
open Go.RowKit M

set_option maxRecDepth 100000 in
set_option maxHeartbeats 6400000 in
theorem typ_one (V : Nat) (hV : V ≤ 1000) : TypCon 1 V := by
  intro D hD w g A n c hC hn
  obtain rfl : D = 1 := by omega
  clear hD
  have HC := hide hC
  have HN := Lib.hid hn
  have hgl := hC.lt
  have HK0 : Hid (w.grownBy w (some g)) := only_refl w (some g)
  clear hC hn
  go_enter Tryd.func5, Tryd.ntmps5
  go_wp2_with fail
  refine (next_st 14 14 rfl (by decide) (by decide) HC.out HN.out).mono ?_
  rintro e w1 ⟨r1, hr1, rfl, hC1, hG1⟩
  have HC1 := hide hC1
  have hx1 : (0 : Int) ≤ (r1 : Int) := by omega
  have hy1 : (r1 : Int) < 14 := by omega
  have HK1 : Hid (w.grownBy w1 (some g)) := only_trans HK0.out hG1
  clear hC1 hG1
  have hq1 : ((r1 : Int).tmod 6) = ((r1 % 6 : Nat) : Int) := by rw [Int.tmod_eq_emod_of_nonneg (by omega)]; omega
  have hq2 : r1 % 6 < 6 := Nat.mod_lt _ (by decide)
  generalize r1 % 6 = q at *
  have hc : q = 0 ∨ q = 1 ∨ q = 2 ∨ q = 3 ∨ q = 4 ∨ q = 5 := by omega
  rcases hc with rfl | rfl | rfl | rfl | rfl | rfl
  · rcases Nat.eq_zero_or_pos V with hV0 | hV0
    · subst hV0
      go_wp2_with fail
      refine (make_st (d := 1) (V := 0) 2 0 none 0 0 [] rfl (by decide) (InC.nil _ _) (fun p hp => by simp at hp) HC1.out HK1.out (tyok_leaf (by omega) (by decide) (fun q => by omega))).mono ?_
      rintro e w2 ⟨v2, ts2, rfl, hO2, hT2, hC2, hG2⟩
      have HO2 := hide hO2
      have HT2 := hide hT2
      have HC2 := hide hC2
      have HG2 := hide hG2
      clear hO2 hT2 hC2 hG2
      go_wp2_with fail
      go_ret
      exact ⟨v2, ts2, rfl, HO2.out, HT2.out, HC2.out, HG2.out⟩
    · have hVi : (0 : Int) < (V : Int) := by omega
      go_wp2_with fail
      refine (next_st V V rfl hV0 (by omega) HC1.out HN.out).mono ?_
      rintro e w3 ⟨r3, hr3, rfl, hC3, hG3⟩
      have HC3 := hide hC3
      have hx3 : (0 : Int) ≤ (r3 : Int) := by omega
      have hy3 : (r3 : Int) < (V : Int) := by omega
      have HK3 : Hid (w.grownBy w3 (some g)) := only_trans HK1.out hG3
      clear hC3 hG3
      go_wp2_with fail
      refine (make_st (d := 1) (V := V) 1 (r3 : Int) none 0 0 [] rfl (by decide) (InC.nil _ _) (fun p hp => by simp at hp) HC3.out HK3.out (tyok_leaf (by omega) (by unfold vN; simp; omega) (fun _ => ⟨by omega, by omega⟩))).mono ?_
      rintro e w4 ⟨v4, ts4, rfl, hO4, hT4, hC4, hG4⟩
      have HO4 := hide hO4
      have HT4 := hide hT4
      have HC4 := hide hC4
      have HG4 := hide hG4
      clear hO4 hT4 hC4 hG4
      go_wp2_with fail
      go_ret
      exact ⟨v4, ts4, rfl, HO4.out, HT4.out, HC4.out, HG4.out⟩
  · rcases Nat.eq_zero_or_pos V with hV0 | hV0
    · subst hV0
      go_wp2_with fail
      refine (make_st (d := 1) (V := 0) 2 0 none 0 0 [] rfl (by decide) (InC.nil _ _) (fun p hp => by simp at hp) HC1.out HK1.out (tyok_leaf (by omega) (by decide) (fun q => by omega))).mono ?_
      rintro e w5 ⟨v5, ts5, rfl, hO5, hT5, hC5, hG5⟩
      have HO5 := hide hO5
      have HT5 := hide hT5
      have HC5 := hide hC5
      have HG5 := hide hG5
      clear hO5 hT5 hC5 hG5
      go_wp2_with fail
      go_ret
      exact ⟨v5, ts5, rfl, HO5.out, HT5.out, HC5.out, HG5.out⟩
    · have hVi : (0 : Int) < (V : Int) := by omega
      go_wp2_with fail
      refine (next_st V V rfl hV0 (by omega) HC1.out HN.out).mono ?_
      rintro e w6 ⟨r6, hr6, rfl, hC6, hG6⟩
      have HC6 := hide hC6
      have hx6 : (0 : Int) ≤ (r6 : Int) := by omega
      have hy6 : (r6 : Int) < (V : Int) := by omega
      have HK6 : Hid (w.grownBy w6 (some g)) := only_trans HK1.out hG6
      clear hC6 hG6
      go_wp2_with fail
      refine (make_st (d := 1) (V := V) 1 (r6 : Int) none 0 0 [] rfl (by decide) (InC.nil _ _) (fun p hp => by simp at hp) HC6.out HK6.out (tyok_leaf (by omega) (by unfold vN; simp; omega) (fun _ => ⟨by omega, by omega⟩))).mono ?_
      rintro e w7 ⟨v7, ts7, rfl, hO7, hT7, hC7, hG7⟩
      have HO7 := hide hO7
      have HT7 := hide hT7
      have HC7 := hide hC7
      have HG7 := hide hG7
      clear hO7 hT7 hC7 hG7
      go_wp2_with fail
      go_ret
      exact ⟨v7, ts7, rfl, HO7.out, HT7.out, HC7.out, HG7.out⟩
  · go_wp2_with fail
    refine (make_st (d := 1) (V := V) 3 0 none 0 0 [] rfl (by decide) (InC.nil _ _) (fun p hp => by simp at hp) HC1.out HK1.out (tyok_leaf (by omega) (by decide) (fun q => by omega))).mono ?_
    rintro e w8 ⟨v8, ts8, rfl, hO8, hT8, hC8, hG8⟩
    have HO8 := hide hO8
    have HT8 := hide hT8
    have HC8 := hide hC8
    have HG8 := hide hG8
    clear hO8 hT8 hC8 hG8
    go_wp2_with fail
    go_ret
    exact ⟨v8, ts8, rfl, HO8.out, HT8.out, HC8.out, HG8.out⟩
  · go_wp2_with fail
    have HB9 := hide (Blk.new w1 3 #[.int .i64 4, .int .i64 5])
    have hbl9 : g < w1.heap.size := (unhide HC1).lt
    have HCa9 := hide ((unhide HC1).alloc (.cells #[.int .i64 4, .int .i64 5] 3))
    have HKa9 : Hid (w.grownBy (w1.alloc (.cells #[.int .i64 4, .int .i64 5] 3)) (some g)) := only_alloc HK1.out _
    generalize hwe9 : w1.alloc (.cells #[.int .i64 4, .int .i64 5] 3) = w9 at *
    clear hwe9
    generalize hbe9 : w1.heap.size = bl9 at *
    clear hbe9
    refine (next_st 2 2 rfl (by decide) (by decide) HCa9.out HN.out).mono ?_
    rintro e w10 ⟨r10, hr10, rfl, hC10, hG10⟩
    have HC10 := hide hC10
    have hx10 : (0 : Int) ≤ (r10 : Int) := by omega
    have hy10 : (r10 : Int) < 2 := by omega
    have HK10 : Hid (w.grownBy w10 (some g)) := only_trans HKa9.out hG10
    have HB9_10 := hide (Blk.grown (unhide HB9) hG10 (ne_g hbl9))
    clear HB9
    clear hC10 hG10
    obtain ⟨e10, hel10, he10⟩ : ∃ e10 : Int, (e10 = 4 ∨ e10 = 5) ∧ (#[.int .i64 4, .int .i64 5] : Array Value)[r10]? = some (.int .i64 e10) := by
      have hcr : r10 = 0 ∨ r10 = 1 := by omega
      rcases hcr with rfl | rfl
      · exact ⟨4, by omega, rfl⟩
      · exact ⟨5, by omega, rfl⟩
    have xe10 := ((unhide HB9_10).cell r10).trans he10
    clear he10
    go_wp2_with fail
    refine (make_st (d := 1) (V := V) e10 0 none 0 0 [] rfl (by decide) (InC.nil _ _) (fun p hp => by simp at hp) HC10.out HK10.out (tyok_leaf (by omega) (by rcases hel10 with q | q <;> subst q <;> decide) (fun q => by rcases hel10 with p | p <;> omega))).mono ?_
    rintro e w11 ⟨v11, ts11, rfl, hO11, hT11, hC11, hG11⟩
    have HO11 := hide hO11
    have HT11 := hide hT11
    have HC11 := hide hC11
    have HG11 := hide hG11
    clear hO11 hT11 hC11 hG11
    go_wp2_with fail
    go_ret
    exact ⟨v11, ts11, rfl, HO11.out, HT11.out, HC11.out, HG11.out⟩
  · go_wp2_with fail
    refine (next_st 3 3 rfl (by decide) (by decide) HC1.out HN.out).mono ?_
    rintro e w12 ⟨r12, hr12, rfl, hC12, hG12⟩
    have HC12 := hide hC12
    have hx12 : (0 : Int) ≤ (r12 : Int) := by omega
    have hy12 : (r12 : Int) < 3 := by omega
    have HK12 : Hid (w.grownBy w12 (some g)) := only_trans HK1.out hG12
    clear hC12 hG12
    go_wp2_with fail
    refine (make_st (d := 1) (V := V) 6 (r12 : Int) none 0 0 [] rfl (by decide) (InC.nil _ _) (fun p hp => by simp at hp) HC12.out HK12.out (tyok_leaf (by omega) (by unfold vN; simp; omega) (fun _ => ⟨by omega, by omega⟩))).mono ?_
    rintro e w13 ⟨v13, ts13, rfl, hO13, hT13, hC13, hG13⟩
    have HO13 := hide hO13
    have HT13 := hide hT13
    have HC13 := hide hC13
    have HG13 := hide hG13
    clear hO13 hT13 hC13 hG13
    go_wp2_with fail
    go_ret
    exact ⟨v13, ts13, rfl, HO13.out, HT13.out, HC13.out, HG13.out⟩
  · go_wp2_with fail
    refine (make_st (d := 1) (V := V) 2 0 none 0 0 [] rfl (by decide) (InC.nil _ _) (fun p hp => by simp at hp) HC1.out HK1.out (tyok_leaf (by omega) (by decide) (fun q => by omega))).mono ?_
    rintro e w14 ⟨v14, ts14, rfl, hO14, hT14, hC14, hG14⟩
    have HO14 := hide hO14
    have HT14 := hide hT14
    have HC14 := hide hC14
    have HG14 := hide hG14
    clear hO14 hT14 hC14 hG14
    go_wp2_with fail
    go_ret
    exact ⟨v14, ts14, rfl, HO14.out, HT14.out, HC14.out, HG14.out⟩

end Go.Proofs.YtcnanbmbdajcaaaDoor
