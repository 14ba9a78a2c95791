/- The statements' types: what typ returns one level deeper. Conditions: typ's contract one level down; at most 1000 variables, at most ten levels. -/
import Derived.Test.YtcnanbmbdajcaaaDoorTyF
import Derived.Deep.RegionHeld3
namespace Go.Proofs.YtcnanbmbdajcaaaDoor
open Go.RowKit M

set_option maxRecDepth 100000 in
set_option maxHeartbeats 12800000 in
theorem typ_up (d V : Nat) (hd : 1 ≤ d) (hd2 : d ≤ 10) (hV : V ≤ 1000) (ih : TypCon d V) : TypCon (d + 1) V := by
  intro D hD w g A n c hC hn
  have IH := hide (ih (D - 1) (by omega))
  have hpow : 2 ^ d ≤ 1024 := Nat.le_trans (Nat.pow_le_pow_right (by decide) hd2) (by decide)
  have hD1 : 1 < D := by omega
  have hD2 : D ≤ 11 := by omega
  have g0 : decide (D ≤ 1) = false := decide_eq_false (by omega)
  clear hD ih
  have HC := hide hC
  have HN := Lib.hid hn
  have hgl := hC.lt
  have HK0 : Hid (w.grownBy w (some g)) := only_refl w (some g)
  clear hC hn
  go_enter Tryd.func5, Tryd.ntmps5
  go_wp2_with fail
  refine (next_st 14 14 rfl (by decide) (by decide) HC.out HN.out).mono ?_
  rintro e w1 ⟨r1, hr1, rfl, hC1, hG1⟩
  have HC1 := hide hC1
  have hx1 : (0 : Int) ≤ (r1 : Int) := by omega
  have hy1 : (r1 : Int) < 14 := by omega
  have HK1 : Hid (w.grownBy w1 (some g)) := only_trans HK0.out hG1
  clear hC1 hG1
  have hc : r1 = 0 ∨ r1 = 1 ∨ r1 = 2 ∨ r1 = 3 ∨ r1 = 4 ∨ r1 = 5 ∨ r1 = 6 ∨ r1 = 7 ∨ r1 = 8 ∨ r1 = 9 ∨ r1 = 10 ∨ r1 = 11 ∨ r1 = 12 ∨ r1 = 13 := by omega
  rcases hc with rfl | rfl | rfl | rfl | rfl | rfl | rfl | rfl | rfl | rfl | rfl | rfl | rfl | rfl
  · rcases Nat.eq_zero_or_pos V with hV0 | hV0
    · subst hV0
      go_wp2_with fail
      refine (make_st (d := d + 1) (V := 0) 2 0 none 0 0 [] rfl (by decide) (InC.nil _ _) (fun p hp => by simp at hp) HC1.out HK1.out (tyok_leaf (by omega) (by decide) (fun q => by omega))).mono ?_
      rintro e w2 ⟨v2, ts2, rfl, hO2, hT2, hC2, hG2⟩
      have HO2 := hide hO2
      have HT2 := hide hT2
      have HC2 := hide hC2
      have HG2 := hide hG2
      clear hO2 hT2 hC2 hG2
      go_wp2_with fail
      go_ret
      exact ⟨v2, ts2, rfl, HO2.out, HT2.out, HC2.out, HG2.out⟩
    · have hVi : (0 : Int) < (V : Int) := by omega
      go_wp2_with fail
      refine (next_st V V rfl hV0 (by omega) HC1.out HN.out).mono ?_
      rintro e w3 ⟨r3, hr3, rfl, hC3, hG3⟩
      have HC3 := hide hC3
      have hx3 : (0 : Int) ≤ (r3 : Int) := by omega
      have hy3 : (r3 : Int) < (V : Int) := by omega
      have HK3 : Hid (w.grownBy w3 (some g)) := only_trans HK1.out hG3
      clear hC3 hG3
      go_wp2_with fail
      refine (make_st (d := d + 1) (V := V) 1 (r3 : Int) none 0 0 [] rfl (by decide) (InC.nil _ _) (fun p hp => by simp at hp) HC3.out HK3.out (tyok_leaf (by omega) (by unfold vN; simp; omega) (fun _ => ⟨by omega, by omega⟩))).mono ?_
      rintro e w4 ⟨v4, ts4, rfl, hO4, hT4, hC4, hG4⟩
      have HO4 := hide hO4
      have HT4 := hide hT4
      have HC4 := hide hC4
      have HG4 := hide hG4
      clear hO4 hT4 hC4 hG4
      go_wp2_with fail
      go_ret
      exact ⟨v4, ts4, rfl, HO4.out, HT4.out, HC4.out, HG4.out⟩
  · rcases Nat.eq_zero_or_pos V with hV0 | hV0
    · subst hV0
      go_wp2_with fail
      refine (make_st (d := d + 1) (V := 0) 2 0 none 0 0 [] rfl (by decide) (InC.nil _ _) (fun p hp => by simp at hp) HC1.out HK1.out (tyok_leaf (by omega) (by decide) (fun q => by omega))).mono ?_
      rintro e w5 ⟨v5, ts5, rfl, hO5, hT5, hC5, hG5⟩
      have HO5 := hide hO5
      have HT5 := hide hT5
      have HC5 := hide hC5
      have HG5 := hide hG5
      clear hO5 hT5 hC5 hG5
      go_wp2_with fail
      go_ret
      exact ⟨v5, ts5, rfl, HO5.out, HT5.out, HC5.out, HG5.out⟩
    · have hVi : (0 : Int) < (V : Int) := by omega
      go_wp2_with fail
      refine (next_st V V rfl hV0 (by omega) HC1.out HN.out).mono ?_
      rintro e w6 ⟨r6, hr6, rfl, hC6, hG6⟩
      have HC6 := hide hC6
      have hx6 : (0 : Int) ≤ (r6 : Int) := by omega
      have hy6 : (r6 : Int) < (V : Int) := by omega
      have HK6 : Hid (w.grownBy w6 (some g)) := only_trans HK1.out hG6
      clear hC6 hG6
      go_wp2_with fail
      refine (make_st (d := d + 1) (V := V) 1 (r6 : Int) none 0 0 [] rfl (by decide) (InC.nil _ _) (fun p hp => by simp at hp) HC6.out HK6.out (tyok_leaf (by omega) (by unfold vN; simp; omega) (fun _ => ⟨by omega, by omega⟩))).mono ?_
      rintro e w7 ⟨v7, ts7, rfl, hO7, hT7, hC7, hG7⟩
      have HO7 := hide hO7
      have HT7 := hide hT7
      have HC7 := hide hC7
      have HG7 := hide hG7
      clear hO7 hT7 hC7 hG7
      go_wp2_with fail
      go_ret
      exact ⟨v7, ts7, rfl, HO7.out, HT7.out, HC7.out, HG7.out⟩
  · go_wp2_with fail
    refine (make_st (d := d + 1) (V := V) 3 0 none 0 0 [] rfl (by decide) (InC.nil _ _) (fun p hp => by simp at hp) HC1.out HK1.out (tyok_leaf (by omega) (by decide) (fun q => by omega))).mono ?_
    rintro e w8 ⟨v8, ts8, rfl, hO8, hT8, hC8, hG8⟩
    have HO8 := hide hO8
    have HT8 := hide hT8
    have HC8 := hide hC8
    have HG8 := hide hG8
    clear hO8 hT8 hC8 hG8
    go_wp2_with fail
    go_ret
    exact ⟨v8, ts8, rfl, HO8.out, HT8.out, HC8.out, HG8.out⟩
  · go_wp2_with fail
    have HB9 := hide (Blk.new w1 3 #[.int .i64 4, .int .i64 5])
    have hbl9 : g < w1.heap.size := (unhide HC1).lt
    have HCa9 := hide ((unhide HC1).alloc (.cells #[.int .i64 4, .int .i64 5] 3))
    have HKa9 : Hid (w.grownBy (w1.alloc (.cells #[.int .i64 4, .int .i64 5] 3)) (some g)) := only_alloc HK1.out _
    generalize hwe9 : w1.alloc (.cells #[.int .i64 4, .int .i64 5] 3) = w9 at *
    clear hwe9
    generalize hbe9 : w1.heap.size = bl9 at *
    clear hbe9
    refine (next_st 2 2 rfl (by decide) (by decide) HCa9.out HN.out).mono ?_
    rintro e w10 ⟨r10, hr10, rfl, hC10, hG10⟩
    have HC10 := hide hC10
    have hx10 : (0 : Int) ≤ (r10 : Int) := by omega
    have hy10 : (r10 : Int) < 2 := by omega
    have HK10 : Hid (w.grownBy w10 (some g)) := only_trans HKa9.out hG10
    have HB9_10 := hide (Blk.grown (unhide HB9) hG10 (ne_g hbl9))
    clear HB9
    clear hC10 hG10
    obtain ⟨e10, hel10, he10⟩ : ∃ e10 : Int, (e10 = 4 ∨ e10 = 5) ∧ (#[.int .i64 4, .int .i64 5] : Array Value)[r10]? = some (.int .i64 e10) := by
      have hcr : r10 = 0 ∨ r10 = 1 := by omega
      rcases hcr with rfl | rfl
      · exact ⟨4, by omega, rfl⟩
      · exact ⟨5, by omega, rfl⟩
    have xe10 := ((unhide HB9_10).cell r10).trans he10
    clear he10
    go_wp2_with fail
    refine (make_st (d := d + 1) (V := V) e10 0 none 0 0 [] rfl (by decide) (InC.nil _ _) (fun p hp => by simp at hp) HC10.out HK10.out (tyok_leaf (by omega) (by rcases hel10 with q | q <;> subst q <;> decide) (fun q => by rcases hel10 with p | p <;> omega))).mono ?_
    rintro e w11 ⟨v11, ts11, rfl, hO11, hT11, hC11, hG11⟩
    have HO11 := hide hO11
    have HT11 := hide hT11
    have HC11 := hide hC11
    have HG11 := hide hG11
    clear hO11 hT11 hC11 hG11
    go_wp2_with fail
    go_ret
    exact ⟨v11, ts11, rfl, HO11.out, HT11.out, HC11.out, HG11.out⟩
  · go_wp2_with fail
    refine (next_st 3 3 rfl (by decide) (by decide) HC1.out HN.out).mono ?_
    rintro e w12 ⟨r12, hr12, rfl, hC12, hG12⟩
    have HC12 := hide hC12
    have hx12 : (0 : Int) ≤ (r12 : Int) := by omega
    have hy12 : (r12 : Int) < 3 := by omega
    have HK12 : Hid (w.grownBy w12 (some g)) := only_trans HK1.out hG12
    clear hC12 hG12
    go_wp2_with fail
    refine (make_st (d := d + 1) (V := V) 6 (r12 : Int) none 0 0 [] rfl (by decide) (InC.nil _ _) (fun p hp => by simp at hp) HC12.out HK12.out (tyok_leaf (by omega) (by unfold vN; simp; omega) (fun _ => ⟨by omega, by omega⟩))).mono ?_
    rintro e w13 ⟨v13, ts13, rfl, hO13, hT13, hC13, hG13⟩
    have HO13 := hide hO13
    have HT13 := hide hT13
    have HC13 := hide hC13
    have HG13 := hide hG13
    clear hO13 hT13 hC13 hG13
    go_wp2_with fail
    go_ret
    exact ⟨v13, ts13, rfl, HO13.out, HT13.out, HC13.out, HG13.out⟩
  · go_wp2_with fail
    refine (make_st (d := d + 1) (V := V) 2 0 none 0 0 [] rfl (by decide) (InC.nil _ _) (fun p hp => by simp at hp) HC1.out HK1.out (tyok_leaf (by omega) (by decide) (fun q => by omega))).mono ?_
    rintro e w14 ⟨v14, ts14, rfl, hO14, hT14, hC14, hG14⟩
    have HO14 := hide hO14
    have HT14 := hide hT14
    have HC14 := hide hC14
    have HG14 := hide hG14
    clear hO14 hT14 hC14 hG14
    go_wp2_with fail
    go_ret
    exact ⟨v14, ts14, rfl, HO14.out, HT14.out, HC14.out, HG14.out⟩
  · go_wp2_with fail
    have HCd := hide ((unhide HC1).drew)
    have HKd : Hid (w.grownBy w1.drew (some g)) := only_drewN HK1.out 1
    refine wp_region_noPanic ?_
    refine wp_region_held_drew (S := fun _ => True) (by kernel_rfl) trivial (fun _ => ?_)
    generalize w1.drew = wd at *
    try simp only [Act.put, List.setIfInBounds_toArray, List.set_cons_zero, List.set_cons_succ]
    refine wpAnyH_take (i := 1) (oi := { dst := some 48, op := Op.move (Operand.tmp 0), type := 26, pos := "law.go:32", after := #[], guard := none }) (v := ?_) rfl (by kernel_rfl) (by kernel_rfl) (by kernel_rfl) (fun _ _ _ h => h) (Or.inl ⟨by rfl, ?_⟩) (trivial) ?_
    rotate_left 1
    · intro w hSw
      try dsimp only at hSw
      go_simp
      first
        | done
        | with_reducible rfl
        | rw [if_neg (by omega)]
    try simp only [Act.put, List.setIfInBounds_toArray, List.set_cons_zero, List.set_cons_succ]
    refine wpAnyH_take (i := 5) (oi := { dst := some 52, op := Op.move (Operand.tmp 0), type := 26, pos := "law.go:32", after := #[], guard := none }) (v := ?_) rfl (by kernel_rfl) (by kernel_rfl) (by kernel_rfl) (fun _ _ _ h => h) (Or.inl ⟨by rfl, ?_⟩) (trivial) ?_
    rotate_left 1
    · intro w hSw
      try dsimp only at hSw
      go_simp
      first
        | done
        | with_reducible rfl
        | rw [if_neg (by omega)]
    try simp only [Act.put, List.setIfInBounds_toArray, List.set_cons_zero, List.set_cons_succ]
    refine wpAnyH_take (i := 6) (oi := { dst := some 53, op := Op.move (Operand.tmp 8), type := 3, pos := "law.go:32", after := #[], guard := none }) (v := ?_) rfl (by kernel_rfl) (by kernel_rfl) (by kernel_rfl) (fun _ _ _ h => h) (Or.inl ⟨by rfl, ?_⟩) (trivial) ?_
    rotate_left 1
    · intro w hSw
      try dsimp only at hSw
      go_simp
      first
        | done
        | with_reducible rfl
        | rw [if_neg (by omega)]
    try simp only [Act.put, List.setIfInBounds_toArray, List.set_cons_zero, List.set_cons_succ]
    refine wpAnyH_take (i := 7) (oi := { dst := some 54, op := Op.move (Operand.tmp 2), type := 3, pos := "law.go:32", after := #[], guard := none }) (v := ?_) rfl (by kernel_rfl) (by kernel_rfl) (by kernel_rfl) (fun _ _ _ h => h) (Or.inl ⟨by rfl, ?_⟩) (trivial) ?_
    rotate_left 1
    · intro w hSw
      try dsimp only at hSw
      go_simp
      first
        | done
        | with_reducible rfl
        | rw [if_neg (by omega)]
    try simp only [Act.put, List.setIfInBounds_toArray, List.set_cons_zero, List.set_cons_succ]
    refine wpAnyH_ready (rs := [0, 2]) (by kernel_rfl) (by simp) ?_
    refine AllReadyH.cons (o := { dst := some 47, op := Op.buildSlice 23 2 #[(0, Operand.const (Value.int IntKind.i64 7)), (1, Operand.const (Value.int IntKind.i64 8))], type := 23, pos := "law.go:32", after := #[], guard := none }) rfl (fun K hK => ?_) (AllReadyH.cons (o := { dst := some 49, op := Op.call { callee := Callee.value (Operand.func 25), args := #[Operand.tmp 48, Operand.const (Value.int IntKind.i64 2)], argTypes := #[26, 3] }, type := 3, pos := "law.go:32", after := #[{ on := 1, ground := Ground.data }], guard := none }) rfl (fun K hK => ?_) (AllReadyH.nil))
    · go_simp
      try dsimp only
      have HB15 := hide (Blk.new wd 3 #[.int .i64 7, .int .i64 8])
      have hbl15 : g < wd.heap.size := (unhide HCd).lt
      have HCa15 := hide ((unhide HCd).alloc (.cells #[.int .i64 7, .int .i64 8] 3))
      have hGa15 : wd.grownBy (wd.alloc (.cells #[.int .i64 7, .int .i64 8] 3)) (some g) := only_alloc (only_refl _ _) _
      obtain ⟨w15, hwe15⟩ : ∃ w15, wd.alloc (.cells #[.int .i64 7, .int .i64 8] 3) = w15 := ⟨_, rfl⟩
      rw [hwe15] at HB15 HCa15 hGa15 ⊢
      have HK15 : Hid (w.grownBy w15 (some g)) := only_trans HKd.out hGa15
      clear hGa15 hwe15
      generalize hbe15 : wd.heap.size = bl15 at *
      clear hbe15
      refine hK.out _ _ (trivial) (fun _ => ?_)
      clear hK K
      try simp only [Act.put, List.setIfInBounds_toArray, List.set_cons_zero, List.set_cons_succ]
      refine wpAnyH_ready (rs := [2]) (by kernel_rfl) (by simp) ?_
      refine AllReadyH.cons (o := { dst := some 49, op := Op.call { callee := Callee.value (Operand.func 25), args := #[Operand.tmp 48, Operand.const (Value.int IntKind.i64 2)], argTypes := #[26, 3] }, type := 3, pos := "law.go:32", after := #[{ on := 1, ground := Ground.data }], guard := none }) rfl (fun K hK => ?_) (AllReadyH.nil)
      go_simp
      go_at_call 25
      refine (next_st 2 2 rfl (by decide) (by decide) HCa15.out HN.out).mono ?_
      rintro e w16 ⟨r16, hr16, rfl, hC16, hG16⟩
      have HC16 := hide hC16
      have hx16 : (0 : Int) ≤ (r16 : Int) := by omega
      have hy16 : (r16 : Int) < 2 := by omega
      have HK16 : Hid (w.grownBy w16 (some g)) := only_trans HK15.out hG16
      have HB15_16 := hide (Blk.grown (unhide HB15) hG16 (ne_g hbl15))
      clear HB15
      clear hC16 hG16
      try dsimp only
      refine hK.out _ _ (trivial) (fun _ => ?_)
      clear hK K
      try simp only [Act.put, List.setIfInBounds_toArray, List.set_cons_zero, List.set_cons_succ]
      refine wpAnyH_take (i := 3) (oi := { dst := some 50, op := Op.indexAddr 23 (Operand.tmp 47) (Operand.tmp 49), type := 0, pos := "law.go:32", after := #[{ on := 0, ground := Ground.data }, { on := 2, ground := Ground.data }], guard := none }) (v := ?_) rfl (by kernel_rfl) (by kernel_rfl) (by kernel_rfl) (fun _ _ _ h => h) (Or.inl ⟨by rfl, ?_⟩) (trivial) ?_
      rotate_left 1
      · intro w hSw
        try dsimp only at hSw
        go_simp
        first
          | done
          | with_reducible rfl
          | rw [if_neg (by omega)]
      try simp only [Act.put, List.setIfInBounds_toArray, List.set_cons_zero, List.set_cons_succ]
      obtain ⟨e17, hel17, he17⟩ : ∃ e17 : Int, (e17 = 7 ∨ e17 = 8) ∧ (#[.int .i64 7, .int .i64 8] : Array Value)[r16]? = some (.int .i64 e17) := by
        have hcr : r16 = 0 ∨ r16 = 1 := by omega
        rcases hcr with rfl | rfl
        · exact ⟨7, by omega, rfl⟩
        · exact ⟨8, by omega, rfl⟩
      have HE17 := hide he17
      clear he17
      refine wpAnyH_stronger (S' := fun W => W.cell? ⟨bl15, r16, none⟩ = some (.int .i64 e17)) (fun _ _ => trivial) ?_
      refine wpAnyH_take (i := 4) (oi := { dst := some 51, op := Op.load 3 (Operand.tmp 50), type := 3, pos := "law.go:32", after := #[{ on := 3, ground := Ground.data }], guard := none }) (v := ?_) rfl (by kernel_rfl) (by kernel_rfl) (by kernel_rfl) (fun _ _ _ h => h) (Or.inl ⟨by rfl, ?_⟩) (((unhide HB15_16).cell r16).trans HE17.out) ?_
      rotate_left 1
      · intro w hSw
        try dsimp only at hSw
        go_simp
        first
          | done
          | with_reducible rfl
          | rw [if_neg (by omega)]
      try simp only [Act.put, List.setIfInBounds_toArray, List.set_cons_zero, List.set_cons_succ]
      refine wpAnyH_ready (rs := [8]) (by kernel_rfl) (by simp) ?_
      refine AllReadyH.cons (o := { dst := some 55, op := Op.call { callee := Callee.value (Operand.func 5), args := #[Operand.tmp 52, Operand.tmp 53, Operand.tmp 54], argTypes := #[26, 3, 3] }, type := 22, pos := "law.go:32", after := #[{ on := 5, ground := Ground.data }, { on := 6, ground := Ground.data }, { on := 7, ground := Ground.data }, { on := 2, ground := Ground.chain }], guard := none }) rfl (fun K hK => ?_) (AllReadyH.nil)
      go_simp
      go_at_call 5
      refine ((unhide IH) _ g A n c HC16.out HN.out).mono ?_
      rintro e w18 ⟨v18, ts18, rfl, hO18, hT18, hC18, hG18⟩
      obtain ⟨A18, c18, rfl⟩ := owns_form hO18
      have HC18 := hide hC18
      have HT18 := hide hT18
      have hl18 : ts18.length ≤ 1024 := by have := hT18.2.1; omega
      have hlt18 : g < w16.heap.size := (unhide HC16).lt
      have HK18 : Hid (w.grownBy w18 (some g)) := only_trans HK16.out hG18
      have HB15_18 := hide (Blk.grown (unhide HB15_16) hG18 (ne_g hbl15))
      clear HB15_16
      have HR18 := hide hO18
      clear hO18 hT18 hC18 hG18
      try dsimp only
      refine hK.out _ _ (((unhide HB15_18).cell r16).trans HE17.out) (fun _ => ?_)
      clear hK K
      try simp only [Act.put, List.setIfInBounds_toArray, List.set_cons_zero, List.set_cons_succ]
      refine wpAnyH_ready (rs := [9]) (by kernel_rfl) (by simp) ?_
      refine AllReadyH.cons (o := { dst := some 56, op := Op.buildSlice 76 1 #[(0, Operand.tmp 55)], type := 76, pos := "law.go:32", after := #[{ on := 8, ground := Ground.data }], guard := none }) rfl (fun K hK => ?_) (AllReadyH.nil)
      go_simp
      try dsimp only
      have HB19 := hide (Blk.new w18 22 #[.slice A18 ts18.length c18])
      have hbl19 : g < w18.heap.size := (unhide HC18).lt
      have HCa19 := hide ((unhide HC18).alloc (.cells #[.slice A18 ts18.length c18] 22))
      have hGa19 : w18.grownBy (w18.alloc (.cells #[.slice A18 ts18.length c18] 22)) (some g) := only_alloc (only_refl _ _) _
      obtain ⟨w19, hwe19⟩ : ∃ w19, w18.alloc (.cells #[.slice A18 ts18.length c18] 22) = w19 := ⟨_, rfl⟩
      rw [hwe19] at HB19 HCa19 hGa19 ⊢
      have HK19 : Hid (w.grownBy w19 (some g)) := only_trans HK18.out hGa19
      have HR18_19 := hide (owns_other (unhide HR18) hGa19 (row_g (unhide HR18) hlt18))
      clear HR18
      have HB15_19 := hide (Blk.grown (unhide HB15_18) hGa19 (ne_g hbl15))
      clear HB15_18
      clear hGa19 hwe19
      generalize hbe19 : w18.heap.size = bl19 at *
      clear hbe19
      refine hK.out _ _ (((unhide HB15_19).cell r16).trans HE17.out) (fun _ => ?_)
      clear hK K
      try simp only [Act.put, List.setIfInBounds_toArray, List.set_cons_zero, List.set_cons_succ]
      refine wpAnyH_ready (rs := [10]) (by kernel_rfl) (by simp) ?_
      refine AllReadyH.cons (o := { dst := some 57, op := Op.call { callee := Callee.value (Operand.func 26), args := #[Operand.tmp 51, Operand.const (Value.int IntKind.i64 0), Operand.tmp 56], argTypes := #[3, 3, 76] }, type := 22, pos := "law.go:32", after := #[{ on := 4, ground := Ground.data }, { on := 9, ground := Ground.data }, { on := 8, ground := Ground.chain }], guard := none }) rfl (fun K hK => ?_) (AllReadyH.nil)
      go_simp
      go_at_call 26
      refine (make_st2 e17 0 _ 1 1 [(A18, c18, ts18)] rfl (by decide) (blk_in (unhide HB19)) (fun p hp => by simp at hp; subst hp; exact ⟨InC.own (unhide HR18_19), by simp only; omega⟩) HCa19.out HK19.out (tyok_one (by rcases hel17 with q | q <;> subst q <;> decide) (by omega) (unhide HT18))).mono ?_
      rintro e w20 ⟨⟨v20, ts20, rfl, hO20, hT20, hC20, hG20⟩, hGm20⟩
      have HO20 := hide hO20
      have HT20 := hide hT20
      have HC20 := hide hC20
      have HG20 := hide hG20
      have HX20 : Hid (w20.cell? ⟨bl15, r16, none⟩ = some (.int .i64 e17)) := by
        have hb2 := (unhide HB15_19)
        exact ((World.cell?_of_block (hGm20.block bl15 hb2.lt (ne_g hbl15))).trans (hb2.cell r16)).trans HE17.out
      clear hO20 hT20 hC20 hG20 hGm20
      try dsimp only
      refine hK.out _ _ HX20.out (fun _ => ?_)
      clear hK K
      try simp only [Act.put, List.setIfInBounds_toArray, List.set_cons_zero, List.set_cons_succ]
      refine wpAnyH_take (i := 11) (oi := { dst := some 6, op := Op.assign (Operand.tmp 57), type := 22, pos := "law.go:32", after := #[{ on := 10, ground := Ground.data }, { on := 10, ground := Ground.chain }, { on := 0, ground := Ground.phase }, { on := 1, ground := Ground.phase }, { on := 2, ground := Ground.phase }, { on := 3, ground := Ground.phase }, { on := 4, ground := Ground.phase }, { on := 5, ground := Ground.phase }, { on := 6, ground := Ground.phase }, { on := 7, ground := Ground.phase }, { on := 8, ground := Ground.phase }, { on := 9, ground := Ground.phase }, { on := 10, ground := Ground.phase }], guard := none }) (v := ?_) rfl (by kernel_rfl) (by kernel_rfl) (by kernel_rfl) (fun _ _ _ h => h) (Or.inl ⟨by rfl, ?_⟩) (HX20.out) ?_
      rotate_left 1
      · intro w hSw
        try dsimp only at hSw
        go_simp
        first
          | done
          | with_reducible rfl
      try simp only [Act.put, List.setIfInBounds_toArray, List.set_cons_zero, List.set_cons_succ]
      refine wpAnyH_done (by kernel_rfl) ?_ _
      refine NoPanic.normal ?_
      go_wp2_with fail
      go_ret
      exact ⟨v20, ts20, rfl, HO20.out, HT20.out, HC20.out, HG20.out⟩
    · go_simp
      go_at_call 25
      refine (next_st 2 2 rfl (by decide) (by decide) HCd.out HN.out).mono ?_
      rintro e w21 ⟨r21, hr21, rfl, hC21, hG21⟩
      have HC21 := hide hC21
      have hx21 : (0 : Int) ≤ (r21 : Int) := by omega
      have hy21 : (r21 : Int) < 2 := by omega
      have HK21 : Hid (w.grownBy w21 (some g)) := only_trans HKd.out hG21
      clear hC21 hG21
      try dsimp only
      refine hK.out _ _ (trivial) (fun _ => ?_)
      clear hK K
      try simp only [Act.put, List.setIfInBounds_toArray, List.set_cons_zero, List.set_cons_succ]
      refine wpAnyH_ready (rs := [0, 8]) (by kernel_rfl) (by simp) ?_
      refine AllReadyH.cons (o := { dst := some 47, op := Op.buildSlice 23 2 #[(0, Operand.const (Value.int IntKind.i64 7)), (1, Operand.const (Value.int IntKind.i64 8))], type := 23, pos := "law.go:32", after := #[], guard := none }) rfl (fun K hK => ?_) (AllReadyH.cons (o := { dst := some 55, op := Op.call { callee := Callee.value (Operand.func 5), args := #[Operand.tmp 52, Operand.tmp 53, Operand.tmp 54], argTypes := #[26, 3, 3] }, type := 22, pos := "law.go:32", after := #[{ on := 5, ground := Ground.data }, { on := 6, ground := Ground.data }, { on := 7, ground := Ground.data }, { on := 2, ground := Ground.chain }], guard := none }) rfl (fun K hK => ?_) (AllReadyH.nil))
      · go_simp
        try dsimp only
        have HB22 := hide (Blk.new w21 3 #[.int .i64 7, .int .i64 8])
        have hbl22 : g < w21.heap.size := (unhide HC21).lt
        have HCa22 := hide ((unhide HC21).alloc (.cells #[.int .i64 7, .int .i64 8] 3))
        have hGa22 : w21.grownBy (w21.alloc (.cells #[.int .i64 7, .int .i64 8] 3)) (some g) := only_alloc (only_refl _ _) _
        obtain ⟨w22, hwe22⟩ : ∃ w22, w21.alloc (.cells #[.int .i64 7, .int .i64 8] 3) = w22 := ⟨_, rfl⟩
        rw [hwe22] at HB22 HCa22 hGa22 ⊢
        have HK22 : Hid (w.grownBy w22 (some g)) := only_trans HK21.out hGa22
        clear hGa22 hwe22
        generalize hbe22 : w21.heap.size = bl22 at *
        clear hbe22
        refine hK.out _ _ (trivial) (fun _ => ?_)
        clear hK K
        try simp only [Act.put, List.setIfInBounds_toArray, List.set_cons_zero, List.set_cons_succ]
        refine wpAnyH_take (i := 3) (oi := { dst := some 50, op := Op.indexAddr 23 (Operand.tmp 47) (Operand.tmp 49), type := 0, pos := "law.go:32", after := #[{ on := 0, ground := Ground.data }, { on := 2, ground := Ground.data }], guard := none }) (v := ?_) rfl (by kernel_rfl) (by kernel_rfl) (by kernel_rfl) (fun _ _ _ h => h) (Or.inl ⟨by rfl, ?_⟩) (trivial) ?_
        rotate_left 1
        · intro w hSw
          try dsimp only at hSw
          go_simp
          first
            | done
            | with_reducible rfl
            | rw [if_neg (by omega)]
        try simp only [Act.put, List.setIfInBounds_toArray, List.set_cons_zero, List.set_cons_succ]
        obtain ⟨e23, hel23, he23⟩ : ∃ e23 : Int, (e23 = 7 ∨ e23 = 8) ∧ (#[.int .i64 7, .int .i64 8] : Array Value)[r21]? = some (.int .i64 e23) := by
          have hcr : r21 = 0 ∨ r21 = 1 := by omega
          rcases hcr with rfl | rfl
          · exact ⟨7, by omega, rfl⟩
          · exact ⟨8, by omega, rfl⟩
        have HE23 := hide he23
        clear he23
        refine wpAnyH_stronger (S' := fun W => W.cell? ⟨bl22, r21, none⟩ = some (.int .i64 e23)) (fun _ _ => trivial) ?_
        refine wpAnyH_take (i := 4) (oi := { dst := some 51, op := Op.load 3 (Operand.tmp 50), type := 3, pos := "law.go:32", after := #[{ on := 3, ground := Ground.data }], guard := none }) (v := ?_) rfl (by kernel_rfl) (by kernel_rfl) (by kernel_rfl) (fun _ _ _ h => h) (Or.inl ⟨by rfl, ?_⟩) (((unhide HB22).cell r21).trans HE23.out) ?_
        rotate_left 1
        · intro w hSw
          try dsimp only at hSw
          go_simp
          first
            | done
            | with_reducible rfl
            | rw [if_neg (by omega)]
        try simp only [Act.put, List.setIfInBounds_toArray, List.set_cons_zero, List.set_cons_succ]
        refine wpAnyH_ready (rs := [8]) (by kernel_rfl) (by simp) ?_
        refine AllReadyH.cons (o := { dst := some 55, op := Op.call { callee := Callee.value (Operand.func 5), args := #[Operand.tmp 52, Operand.tmp 53, Operand.tmp 54], argTypes := #[26, 3, 3] }, type := 22, pos := "law.go:32", after := #[{ on := 5, ground := Ground.data }, { on := 6, ground := Ground.data }, { on := 7, ground := Ground.data }, { on := 2, ground := Ground.chain }], guard := none }) rfl (fun K hK => ?_) (AllReadyH.nil)
        go_simp
        go_at_call 5
        refine ((unhide IH) _ g A n c HCa22.out HN.out).mono ?_
        rintro e w24 ⟨v24, ts24, rfl, hO24, hT24, hC24, hG24⟩
        obtain ⟨A24, c24, rfl⟩ := owns_form hO24
        have HC24 := hide hC24
        have HT24 := hide hT24
        have hl24 : ts24.length ≤ 1024 := by have := hT24.2.1; omega
        have hlt24 : g < w22.heap.size := (unhide HCa22).lt
        have HK24 : Hid (w.grownBy w24 (some g)) := only_trans HK22.out hG24
        have HB22_24 := hide (Blk.grown (unhide HB22) hG24 (ne_g hbl22))
        clear HB22
        have HR24 := hide hO24
        clear hO24 hT24 hC24 hG24
        try dsimp only
        refine hK.out _ _ (((unhide HB22_24).cell r21).trans HE23.out) (fun _ => ?_)
        clear hK K
        try simp only [Act.put, List.setIfInBounds_toArray, List.set_cons_zero, List.set_cons_succ]
        refine wpAnyH_ready (rs := [9]) (by kernel_rfl) (by simp) ?_
        refine AllReadyH.cons (o := { dst := some 56, op := Op.buildSlice 76 1 #[(0, Operand.tmp 55)], type := 76, pos := "law.go:32", after := #[{ on := 8, ground := Ground.data }], guard := none }) rfl (fun K hK => ?_) (AllReadyH.nil)
        go_simp
        try dsimp only
        have HB25 := hide (Blk.new w24 22 #[.slice A24 ts24.length c24])
        have hbl25 : g < w24.heap.size := (unhide HC24).lt
        have HCa25 := hide ((unhide HC24).alloc (.cells #[.slice A24 ts24.length c24] 22))
        have hGa25 : w24.grownBy (w24.alloc (.cells #[.slice A24 ts24.length c24] 22)) (some g) := only_alloc (only_refl _ _) _
        obtain ⟨w25, hwe25⟩ : ∃ w25, w24.alloc (.cells #[.slice A24 ts24.length c24] 22) = w25 := ⟨_, rfl⟩
        rw [hwe25] at HB25 HCa25 hGa25 ⊢
        have HK25 : Hid (w.grownBy w25 (some g)) := only_trans HK24.out hGa25
        have HR24_25 := hide (owns_other (unhide HR24) hGa25 (row_g (unhide HR24) hlt24))
        clear HR24
        have HB22_25 := hide (Blk.grown (unhide HB22_24) hGa25 (ne_g hbl22))
        clear HB22_24
        clear hGa25 hwe25
        generalize hbe25 : w24.heap.size = bl25 at *
        clear hbe25
        refine hK.out _ _ (((unhide HB22_25).cell r21).trans HE23.out) (fun _ => ?_)
        clear hK K
        try simp only [Act.put, List.setIfInBounds_toArray, List.set_cons_zero, List.set_cons_succ]
        refine wpAnyH_ready (rs := [10]) (by kernel_rfl) (by simp) ?_
        refine AllReadyH.cons (o := { dst := some 57, op := Op.call { callee := Callee.value (Operand.func 26), args := #[Operand.tmp 51, Operand.const (Value.int IntKind.i64 0), Operand.tmp 56], argTypes := #[3, 3, 76] }, type := 22, pos := "law.go:32", after := #[{ on := 4, ground := Ground.data }, { on := 9, ground := Ground.data }, { on := 8, ground := Ground.chain }], guard := none }) rfl (fun K hK => ?_) (AllReadyH.nil)
        go_simp
        go_at_call 26
        refine (make_st2 e23 0 _ 1 1 [(A24, c24, ts24)] rfl (by decide) (blk_in (unhide HB25)) (fun p hp => by simp at hp; subst hp; exact ⟨InC.own (unhide HR24_25), by simp only; omega⟩) HCa25.out HK25.out (tyok_one (by rcases hel23 with q | q <;> subst q <;> decide) (by omega) (unhide HT24))).mono ?_
        rintro e w26 ⟨⟨v26, ts26, rfl, hO26, hT26, hC26, hG26⟩, hGm26⟩
        have HO26 := hide hO26
        have HT26 := hide hT26
        have HC26 := hide hC26
        have HG26 := hide hG26
        have HX26 : Hid (w26.cell? ⟨bl22, r21, none⟩ = some (.int .i64 e23)) := by
          have hb2 := (unhide HB22_25)
          exact ((World.cell?_of_block (hGm26.block bl22 hb2.lt (ne_g hbl22))).trans (hb2.cell r21)).trans HE23.out
        clear hO26 hT26 hC26 hG26 hGm26
        try dsimp only
        refine hK.out _ _ HX26.out (fun _ => ?_)
        clear hK K
        try simp only [Act.put, List.setIfInBounds_toArray, List.set_cons_zero, List.set_cons_succ]
        refine wpAnyH_take (i := 11) (oi := { dst := some 6, op := Op.assign (Operand.tmp 57), type := 22, pos := "law.go:32", after := #[{ on := 10, ground := Ground.data }, { on := 10, ground := Ground.chain }, { on := 0, ground := Ground.phase }, { on := 1, ground := Ground.phase }, { on := 2, ground := Ground.phase }, { on := 3, ground := Ground.phase }, { on := 4, ground := Ground.phase }, { on := 5, ground := Ground.phase }, { on := 6, ground := Ground.phase }, { on := 7, ground := Ground.phase }, { on := 8, ground := Ground.phase }, { on := 9, ground := Ground.phase }, { on := 10, ground := Ground.phase }], guard := none }) (v := ?_) rfl (by kernel_rfl) (by kernel_rfl) (by kernel_rfl) (fun _ _ _ h => h) (Or.inl ⟨by rfl, ?_⟩) (HX26.out) ?_
        rotate_left 1
        · intro w hSw
          try dsimp only at hSw
          go_simp
          first
            | done
            | with_reducible rfl
        try simp only [Act.put, List.setIfInBounds_toArray, List.set_cons_zero, List.set_cons_succ]
        refine wpAnyH_done (by kernel_rfl) ?_ _
        refine NoPanic.normal ?_
        go_wp2_with fail
        go_ret
        exact ⟨v26, ts26, rfl, HO26.out, HT26.out, HC26.out, HG26.out⟩
      · go_simp
        go_at_call 5
        refine ((unhide IH) _ g A n c HC21.out HN.out).mono ?_
        rintro e w27 ⟨v27, ts27, rfl, hO27, hT27, hC27, hG27⟩
        obtain ⟨A27, c27, rfl⟩ := owns_form hO27
        have HC27 := hide hC27
        have HT27 := hide hT27
        have hl27 : ts27.length ≤ 1024 := by have := hT27.2.1; omega
        have hlt27 : g < w21.heap.size := (unhide HC21).lt
        have HK27 : Hid (w.grownBy w27 (some g)) := only_trans HK21.out hG27
        have HR27 := hide hO27
        clear hO27 hT27 hC27 hG27
        try dsimp only
        refine hK.out _ _ (trivial) (fun _ => ?_)
        clear hK K
        try simp only [Act.put, List.setIfInBounds_toArray, List.set_cons_zero, List.set_cons_succ]
        refine wpAnyH_ready (rs := [0, 9]) (by kernel_rfl) (by simp) ?_
        refine AllReadyH.cons (o := { dst := some 47, op := Op.buildSlice 23 2 #[(0, Operand.const (Value.int IntKind.i64 7)), (1, Operand.const (Value.int IntKind.i64 8))], type := 23, pos := "law.go:32", after := #[], guard := none }) rfl (fun K hK => ?_) (AllReadyH.cons (o := { dst := some 56, op := Op.buildSlice 76 1 #[(0, Operand.tmp 55)], type := 76, pos := "law.go:32", after := #[{ on := 8, ground := Ground.data }], guard := none }) rfl (fun K hK => ?_) (AllReadyH.nil))
        · go_simp
          try dsimp only
          have HB28 := hide (Blk.new w27 3 #[.int .i64 7, .int .i64 8])
          have hbl28 : g < w27.heap.size := (unhide HC27).lt
          have HCa28 := hide ((unhide HC27).alloc (.cells #[.int .i64 7, .int .i64 8] 3))
          have hGa28 : w27.grownBy (w27.alloc (.cells #[.int .i64 7, .int .i64 8] 3)) (some g) := only_alloc (only_refl _ _) _
          obtain ⟨w28, hwe28⟩ : ∃ w28, w27.alloc (.cells #[.int .i64 7, .int .i64 8] 3) = w28 := ⟨_, rfl⟩
          rw [hwe28] at HB28 HCa28 hGa28 ⊢
          have HK28 : Hid (w.grownBy w28 (some g)) := only_trans HK27.out hGa28
          have HR27_28 := hide (owns_other (unhide HR27) hGa28 (row_g (unhide HR27) hlt27))
          clear HR27
          clear hGa28 hwe28
          generalize hbe28 : w27.heap.size = bl28 at *
          clear hbe28
          refine hK.out _ _ (trivial) (fun _ => ?_)
          clear hK K
          try simp only [Act.put, List.setIfInBounds_toArray, List.set_cons_zero, List.set_cons_succ]
          refine wpAnyH_take (i := 3) (oi := { dst := some 50, op := Op.indexAddr 23 (Operand.tmp 47) (Operand.tmp 49), type := 0, pos := "law.go:32", after := #[{ on := 0, ground := Ground.data }, { on := 2, ground := Ground.data }], guard := none }) (v := ?_) rfl (by kernel_rfl) (by kernel_rfl) (by kernel_rfl) (fun _ _ _ h => h) (Or.inl ⟨by rfl, ?_⟩) (trivial) ?_
          rotate_left 1
          · intro w hSw
            try dsimp only at hSw
            go_simp
            first
              | done
              | with_reducible rfl
              | rw [if_neg (by omega)]
          try simp only [Act.put, List.setIfInBounds_toArray, List.set_cons_zero, List.set_cons_succ]
          obtain ⟨e29, hel29, he29⟩ : ∃ e29 : Int, (e29 = 7 ∨ e29 = 8) ∧ (#[.int .i64 7, .int .i64 8] : Array Value)[r21]? = some (.int .i64 e29) := by
            have hcr : r21 = 0 ∨ r21 = 1 := by omega
            rcases hcr with rfl | rfl
            · exact ⟨7, by omega, rfl⟩
            · exact ⟨8, by omega, rfl⟩
          have HE29 := hide he29
          clear he29
          refine wpAnyH_stronger (S' := fun W => W.cell? ⟨bl28, r21, none⟩ = some (.int .i64 e29)) (fun _ _ => trivial) ?_
          refine wpAnyH_take (i := 4) (oi := { dst := some 51, op := Op.load 3 (Operand.tmp 50), type := 3, pos := "law.go:32", after := #[{ on := 3, ground := Ground.data }], guard := none }) (v := ?_) rfl (by kernel_rfl) (by kernel_rfl) (by kernel_rfl) (fun _ _ _ h => h) (Or.inl ⟨by rfl, ?_⟩) (((unhide HB28).cell r21).trans HE29.out) ?_
          rotate_left 1
          · intro w hSw
            try dsimp only at hSw
            go_simp
            first
              | done
              | with_reducible rfl
              | rw [if_neg (by omega)]
          try simp only [Act.put, List.setIfInBounds_toArray, List.set_cons_zero, List.set_cons_succ]
          refine wpAnyH_ready (rs := [9]) (by kernel_rfl) (by simp) ?_
          refine AllReadyH.cons (o := { dst := some 56, op := Op.buildSlice 76 1 #[(0, Operand.tmp 55)], type := 76, pos := "law.go:32", after := #[{ on := 8, ground := Ground.data }], guard := none }) rfl (fun K hK => ?_) (AllReadyH.nil)
          go_simp
          try dsimp only
          have HB30 := hide (Blk.new w28 22 #[.slice A27 ts27.length c27])
          have hbl30 : g < w28.heap.size := (unhide HCa28).lt
          have HCa30 := hide ((unhide HCa28).alloc (.cells #[.slice A27 ts27.length c27] 22))
          have hGa30 : w28.grownBy (w28.alloc (.cells #[.slice A27 ts27.length c27] 22)) (some g) := only_alloc (only_refl _ _) _
          obtain ⟨w30, hwe30⟩ : ∃ w30, w28.alloc (.cells #[.slice A27 ts27.length c27] 22) = w30 := ⟨_, rfl⟩
          rw [hwe30] at HB30 HCa30 hGa30 ⊢
          have HK30 : Hid (w.grownBy w30 (some g)) := only_trans HK28.out hGa30
          have HR27_30 := hide (owns_other (unhide HR27_28) hGa30 (row_g (unhide HR27_28) hlt27))
          clear HR27_28
          have HB28_30 := hide (Blk.grown (unhide HB28) hGa30 (ne_g hbl28))
          clear HB28
          clear hGa30 hwe30
          generalize hbe30 : w28.heap.size = bl30 at *
          clear hbe30
          refine hK.out _ _ (((unhide HB28_30).cell r21).trans HE29.out) (fun _ => ?_)
          clear hK K
          try simp only [Act.put, List.setIfInBounds_toArray, List.set_cons_zero, List.set_cons_succ]
          refine wpAnyH_ready (rs := [10]) (by kernel_rfl) (by simp) ?_
          refine AllReadyH.cons (o := { dst := some 57, op := Op.call { callee := Callee.value (Operand.func 26), args := #[Operand.tmp 51, Operand.const (Value.int IntKind.i64 0), Operand.tmp 56], argTypes := #[3, 3, 76] }, type := 22, pos := "law.go:32", after := #[{ on := 4, ground := Ground.data }, { on := 9, ground := Ground.data }, { on := 8, ground := Ground.chain }], guard := none }) rfl (fun K hK => ?_) (AllReadyH.nil)
          go_simp
          go_at_call 26
          refine (make_st2 e29 0 _ 1 1 [(A27, c27, ts27)] rfl (by decide) (blk_in (unhide HB30)) (fun p hp => by simp at hp; subst hp; exact ⟨InC.own (unhide HR27_30), by simp only; omega⟩) HCa30.out HK30.out (tyok_one (by rcases hel29 with q | q <;> subst q <;> decide) (by omega) (unhide HT27))).mono ?_
          rintro e w31 ⟨⟨v31, ts31, rfl, hO31, hT31, hC31, hG31⟩, hGm31⟩
          have HO31 := hide hO31
          have HT31 := hide hT31
          have HC31 := hide hC31
          have HG31 := hide hG31
          have HX31 : Hid (w31.cell? ⟨bl28, r21, none⟩ = some (.int .i64 e29)) := by
            have hb2 := (unhide HB28_30)
            exact ((World.cell?_of_block (hGm31.block bl28 hb2.lt (ne_g hbl28))).trans (hb2.cell r21)).trans HE29.out
          clear hO31 hT31 hC31 hG31 hGm31
          try dsimp only
          refine hK.out _ _ HX31.out (fun _ => ?_)
          clear hK K
          try simp only [Act.put, List.setIfInBounds_toArray, List.set_cons_zero, List.set_cons_succ]
          refine wpAnyH_take (i := 11) (oi := { dst := some 6, op := Op.assign (Operand.tmp 57), type := 22, pos := "law.go:32", after := #[{ on := 10, ground := Ground.data }, { on := 10, ground := Ground.chain }, { on := 0, ground := Ground.phase }, { on := 1, ground := Ground.phase }, { on := 2, ground := Ground.phase }, { on := 3, ground := Ground.phase }, { on := 4, ground := Ground.phase }, { on := 5, ground := Ground.phase }, { on := 6, ground := Ground.phase }, { on := 7, ground := Ground.phase }, { on := 8, ground := Ground.phase }, { on := 9, ground := Ground.phase }, { on := 10, ground := Ground.phase }], guard := none }) (v := ?_) rfl (by kernel_rfl) (by kernel_rfl) (by kernel_rfl) (fun _ _ _ h => h) (Or.inl ⟨by rfl, ?_⟩) (HX31.out) ?_
          rotate_left 1
          · intro w hSw
            try dsimp only at hSw
            go_simp
            first
              | done
              | with_reducible rfl
          try simp only [Act.put, List.setIfInBounds_toArray, List.set_cons_zero, List.set_cons_succ]
          refine wpAnyH_done (by kernel_rfl) ?_ _
          refine NoPanic.normal ?_
          go_wp2_with fail
          go_ret
          exact ⟨v31, ts31, rfl, HO31.out, HT31.out, HC31.out, HG31.out⟩
        · go_simp
          try dsimp only
          have HB32 := hide (Blk.new w27 22 #[.slice A27 ts27.length c27])
          have hbl32 : g < w27.heap.size := (unhide HC27).lt
          have HCa32 := hide ((unhide HC27).alloc (.cells #[.slice A27 ts27.length c27] 22))
          have hGa32 : w27.grownBy (w27.alloc (.cells #[.slice A27 ts27.length c27] 22)) (some g) := only_alloc (only_refl _ _) _
          obtain ⟨w32, hwe32⟩ : ∃ w32, w27.alloc (.cells #[.slice A27 ts27.length c27] 22) = w32 := ⟨_, rfl⟩
          rw [hwe32] at HB32 HCa32 hGa32 ⊢
          have HK32 : Hid (w.grownBy w32 (some g)) := only_trans HK27.out hGa32
          have HR27_32 := hide (owns_other (unhide HR27) hGa32 (row_g (unhide HR27) hlt27))
          clear HR27
          clear hGa32 hwe32
          generalize hbe32 : w27.heap.size = bl32 at *
          clear hbe32
          refine hK.out _ _ (trivial) (fun _ => ?_)
          clear hK K
          try simp only [Act.put, List.setIfInBounds_toArray, List.set_cons_zero, List.set_cons_succ]
          refine wpAnyH_ready (rs := [0]) (by kernel_rfl) (by simp) ?_
          refine AllReadyH.cons (o := { dst := some 47, op := Op.buildSlice 23 2 #[(0, Operand.const (Value.int IntKind.i64 7)), (1, Operand.const (Value.int IntKind.i64 8))], type := 23, pos := "law.go:32", after := #[], guard := none }) rfl (fun K hK => ?_) (AllReadyH.nil)
          go_simp
          try dsimp only
          have HB33 := hide (Blk.new w32 3 #[.int .i64 7, .int .i64 8])
          have hbl33 : g < w32.heap.size := (unhide HCa32).lt
          have HCa33 := hide ((unhide HCa32).alloc (.cells #[.int .i64 7, .int .i64 8] 3))
          have hGa33 : w32.grownBy (w32.alloc (.cells #[.int .i64 7, .int .i64 8] 3)) (some g) := only_alloc (only_refl _ _) _
          obtain ⟨w33, hwe33⟩ : ∃ w33, w32.alloc (.cells #[.int .i64 7, .int .i64 8] 3) = w33 := ⟨_, rfl⟩
          rw [hwe33] at HB33 HCa33 hGa33 ⊢
          have HK33 : Hid (w.grownBy w33 (some g)) := only_trans HK32.out hGa33
          have HR27_33 := hide (owns_other (unhide HR27_32) hGa33 (row_g (unhide HR27_32) hlt27))
          clear HR27_32
          have HB32_33 := hide (Blk.grown (unhide HB32) hGa33 (ne_g hbl32))
          clear HB32
          clear hGa33 hwe33
          generalize hbe33 : w32.heap.size = bl33 at *
          clear hbe33
          refine hK.out _ _ (trivial) (fun _ => ?_)
          clear hK K
          try simp only [Act.put, List.setIfInBounds_toArray, List.set_cons_zero, List.set_cons_succ]
          refine wpAnyH_take (i := 3) (oi := { dst := some 50, op := Op.indexAddr 23 (Operand.tmp 47) (Operand.tmp 49), type := 0, pos := "law.go:32", after := #[{ on := 0, ground := Ground.data }, { on := 2, ground := Ground.data }], guard := none }) (v := ?_) rfl (by kernel_rfl) (by kernel_rfl) (by kernel_rfl) (fun _ _ _ h => h) (Or.inl ⟨by rfl, ?_⟩) (trivial) ?_
          rotate_left 1
          · intro w hSw
            try dsimp only at hSw
            go_simp
            first
              | done
              | with_reducible rfl
              | rw [if_neg (by omega)]
          try simp only [Act.put, List.setIfInBounds_toArray, List.set_cons_zero, List.set_cons_succ]
          obtain ⟨e34, hel34, he34⟩ : ∃ e34 : Int, (e34 = 7 ∨ e34 = 8) ∧ (#[.int .i64 7, .int .i64 8] : Array Value)[r21]? = some (.int .i64 e34) := by
            have hcr : r21 = 0 ∨ r21 = 1 := by omega
            rcases hcr with rfl | rfl
            · exact ⟨7, by omega, rfl⟩
            · exact ⟨8, by omega, rfl⟩
          have HE34 := hide he34
          clear he34
          refine wpAnyH_stronger (S' := fun W => W.cell? ⟨bl33, r21, none⟩ = some (.int .i64 e34)) (fun _ _ => trivial) ?_
          refine wpAnyH_take (i := 4) (oi := { dst := some 51, op := Op.load 3 (Operand.tmp 50), type := 3, pos := "law.go:32", after := #[{ on := 3, ground := Ground.data }], guard := none }) (v := ?_) rfl (by kernel_rfl) (by kernel_rfl) (by kernel_rfl) (fun _ _ _ h => h) (Or.inl ⟨by rfl, ?_⟩) (((unhide HB33).cell r21).trans HE34.out) ?_
          rotate_left 1
          · intro w hSw
            try dsimp only at hSw
            go_simp
            first
              | done
              | with_reducible rfl
              | rw [if_neg (by omega)]
          try simp only [Act.put, List.setIfInBounds_toArray, List.set_cons_zero, List.set_cons_succ]
          refine wpAnyH_ready (rs := [10]) (by kernel_rfl) (by simp) ?_
          refine AllReadyH.cons (o := { dst := some 57, op := Op.call { callee := Callee.value (Operand.func 26), args := #[Operand.tmp 51, Operand.const (Value.int IntKind.i64 0), Operand.tmp 56], argTypes := #[3, 3, 76] }, type := 22, pos := "law.go:32", after := #[{ on := 4, ground := Ground.data }, { on := 9, ground := Ground.data }, { on := 8, ground := Ground.chain }], guard := none }) rfl (fun K hK => ?_) (AllReadyH.nil)
          go_simp
          go_at_call 26
          refine (make_st2 e34 0 _ 1 1 [(A27, c27, ts27)] rfl (by decide) (blk_in (unhide HB32_33)) (fun p hp => by simp at hp; subst hp; exact ⟨InC.own (unhide HR27_33), by simp only; omega⟩) HCa33.out HK33.out (tyok_one (by rcases hel34 with q | q <;> subst q <;> decide) (by omega) (unhide HT27))).mono ?_
          rintro e w35 ⟨⟨v35, ts35, rfl, hO35, hT35, hC35, hG35⟩, hGm35⟩
          have HO35 := hide hO35
          have HT35 := hide hT35
          have HC35 := hide hC35
          have HG35 := hide hG35
          have HX35 : Hid (w35.cell? ⟨bl33, r21, none⟩ = some (.int .i64 e34)) := by
            have hb2 := (unhide HB33)
            exact ((World.cell?_of_block (hGm35.block bl33 hb2.lt (ne_g hbl33))).trans (hb2.cell r21)).trans HE34.out
          clear hO35 hT35 hC35 hG35 hGm35
          try dsimp only
          refine hK.out _ _ HX35.out (fun _ => ?_)
          clear hK K
          try simp only [Act.put, List.setIfInBounds_toArray, List.set_cons_zero, List.set_cons_succ]
          refine wpAnyH_take (i := 11) (oi := { dst := some 6, op := Op.assign (Operand.tmp 57), type := 22, pos := "law.go:32", after := #[{ on := 10, ground := Ground.data }, { on := 10, ground := Ground.chain }, { on := 0, ground := Ground.phase }, { on := 1, ground := Ground.phase }, { on := 2, ground := Ground.phase }, { on := 3, ground := Ground.phase }, { on := 4, ground := Ground.phase }, { on := 5, ground := Ground.phase }, { on := 6, ground := Ground.phase }, { on := 7, ground := Ground.phase }, { on := 8, ground := Ground.phase }, { on := 9, ground := Ground.phase }, { on := 10, ground := Ground.phase }], guard := none }) (v := ?_) rfl (by kernel_rfl) (by kernel_rfl) (by kernel_rfl) (fun _ _ _ h => h) (Or.inl ⟨by rfl, ?_⟩) (HX35.out) ?_
          rotate_left 1
          · intro w hSw
            try dsimp only at hSw
            go_simp
            first
              | done
              | with_reducible rfl
          try simp only [Act.put, List.setIfInBounds_toArray, List.set_cons_zero, List.set_cons_succ]
          refine wpAnyH_done (by kernel_rfl) ?_ _
          refine NoPanic.normal ?_
          go_wp2_with fail
          go_ret
          exact ⟨v35, ts35, rfl, HO35.out, HT35.out, HC35.out, HG35.out⟩
  · go_wp2_with fail
    have HCd := hide ((unhide HC1).drew)
    have HKd : Hid (w.grownBy w1.drew (some g)) := only_drewN HK1.out 1
    refine wp_region_noPanic ?_
    refine wp_region_held_drew (S := fun _ => True) (by kernel_rfl) trivial (fun _ => ?_)
    generalize w1.drew = wd at *
    try simp only [Act.put, List.setIfInBounds_toArray, List.set_cons_zero, List.set_cons_succ]
    refine wpAnyH_take (i := 1) (oi := { dst := some 48, op := Op.move (Operand.tmp 0), type := 26, pos := "law.go:32", after := #[], guard := none }) (v := ?_) rfl (by kernel_rfl) (by kernel_rfl) (by kernel_rfl) (fun _ _ _ h => h) (Or.inl ⟨by rfl, ?_⟩) (trivial) ?_
    rotate_left 1
    · intro w hSw
      try dsimp only at hSw
      go_simp
      first
        | done
        | with_reducible rfl
        | rw [if_neg (by omega)]
    try simp only [Act.put, List.setIfInBounds_toArray, List.set_cons_zero, List.set_cons_succ]
    refine wpAnyH_take (i := 5) (oi := { dst := some 52, op := Op.move (Operand.tmp 0), type := 26, pos := "law.go:32", after := #[], guard := none }) (v := ?_) rfl (by kernel_rfl) (by kernel_rfl) (by kernel_rfl) (fun _ _ _ h => h) (Or.inl ⟨by rfl, ?_⟩) (trivial) ?_
    rotate_left 1
    · intro w hSw
      try dsimp only at hSw
      go_simp
      first
        | done
        | with_reducible rfl
        | rw [if_neg (by omega)]
    try simp only [Act.put, List.setIfInBounds_toArray, List.set_cons_zero, List.set_cons_succ]
    refine wpAnyH_take (i := 6) (oi := { dst := some 53, op := Op.move (Operand.tmp 8), type := 3, pos := "law.go:32", after := #[], guard := none }) (v := ?_) rfl (by kernel_rfl) (by kernel_rfl) (by kernel_rfl) (fun _ _ _ h => h) (Or.inl ⟨by rfl, ?_⟩) (trivial) ?_
    rotate_left 1
    · intro w hSw
      try dsimp only at hSw
      go_simp
      first
        | done
        | with_reducible rfl
        | rw [if_neg (by omega)]
    try simp only [Act.put, List.setIfInBounds_toArray, List.set_cons_zero, List.set_cons_succ]
    refine wpAnyH_take (i := 7) (oi := { dst := some 54, op := Op.move (Operand.tmp 2), type := 3, pos := "law.go:32", after := #[], guard := none }) (v := ?_) rfl (by kernel_rfl) (by kernel_rfl) (by kernel_rfl) (fun _ _ _ h => h) (Or.inl ⟨by rfl, ?_⟩) (trivial) ?_
    rotate_left 1
    · intro w hSw
      try dsimp only at hSw
      go_simp
      first
        | done
        | with_reducible rfl
        | rw [if_neg (by omega)]
    try simp only [Act.put, List.setIfInBounds_toArray, List.set_cons_zero, List.set_cons_succ]
    refine wpAnyH_ready (rs := [0, 2]) (by kernel_rfl) (by simp) ?_
    refine AllReadyH.cons (o := { dst := some 47, op := Op.buildSlice 23 2 #[(0, Operand.const (Value.int IntKind.i64 7)), (1, Operand.const (Value.int IntKind.i64 8))], type := 23, pos := "law.go:32", after := #[], guard := none }) rfl (fun K hK => ?_) (AllReadyH.cons (o := { dst := some 49, op := Op.call { callee := Callee.value (Operand.func 25), args := #[Operand.tmp 48, Operand.const (Value.int IntKind.i64 2)], argTypes := #[26, 3] }, type := 3, pos := "law.go:32", after := #[{ on := 1, ground := Ground.data }], guard := none }) rfl (fun K hK => ?_) (AllReadyH.nil))
    · go_simp
      try dsimp only
      have HB36 := hide (Blk.new wd 3 #[.int .i64 7, .int .i64 8])
      have hbl36 : g < wd.heap.size := (unhide HCd).lt
      have HCa36 := hide ((unhide HCd).alloc (.cells #[.int .i64 7, .int .i64 8] 3))
      have hGa36 : wd.grownBy (wd.alloc (.cells #[.int .i64 7, .int .i64 8] 3)) (some g) := only_alloc (only_refl _ _) _
      obtain ⟨w36, hwe36⟩ : ∃ w36, wd.alloc (.cells #[.int .i64 7, .int .i64 8] 3) = w36 := ⟨_, rfl⟩
      rw [hwe36] at HB36 HCa36 hGa36 ⊢
      have HK36 : Hid (w.grownBy w36 (some g)) := only_trans HKd.out hGa36
      clear hGa36 hwe36
      generalize hbe36 : wd.heap.size = bl36 at *
      clear hbe36
      refine hK.out _ _ (trivial) (fun _ => ?_)
      clear hK K
      try simp only [Act.put, List.setIfInBounds_toArray, List.set_cons_zero, List.set_cons_succ]
      refine wpAnyH_ready (rs := [2]) (by kernel_rfl) (by simp) ?_
      refine AllReadyH.cons (o := { dst := some 49, op := Op.call { callee := Callee.value (Operand.func 25), args := #[Operand.tmp 48, Operand.const (Value.int IntKind.i64 2)], argTypes := #[26, 3] }, type := 3, pos := "law.go:32", after := #[{ on := 1, ground := Ground.data }], guard := none }) rfl (fun K hK => ?_) (AllReadyH.nil)
      go_simp
      go_at_call 25
      refine (next_st 2 2 rfl (by decide) (by decide) HCa36.out HN.out).mono ?_
      rintro e w37 ⟨r37, hr37, rfl, hC37, hG37⟩
      have HC37 := hide hC37
      have hx37 : (0 : Int) ≤ (r37 : Int) := by omega
      have hy37 : (r37 : Int) < 2 := by omega
      have HK37 : Hid (w.grownBy w37 (some g)) := only_trans HK36.out hG37
      have HB36_37 := hide (Blk.grown (unhide HB36) hG37 (ne_g hbl36))
      clear HB36
      clear hC37 hG37
      try dsimp only
      refine hK.out _ _ (trivial) (fun _ => ?_)
      clear hK K
      try simp only [Act.put, List.setIfInBounds_toArray, List.set_cons_zero, List.set_cons_succ]
      refine wpAnyH_take (i := 3) (oi := { dst := some 50, op := Op.indexAddr 23 (Operand.tmp 47) (Operand.tmp 49), type := 0, pos := "law.go:32", after := #[{ on := 0, ground := Ground.data }, { on := 2, ground := Ground.data }], guard := none }) (v := ?_) rfl (by kernel_rfl) (by kernel_rfl) (by kernel_rfl) (fun _ _ _ h => h) (Or.inl ⟨by rfl, ?_⟩) (trivial) ?_
      rotate_left 1
      · intro w hSw
        try dsimp only at hSw
        go_simp
        first
          | done
          | with_reducible rfl
          | rw [if_neg (by omega)]
      try simp only [Act.put, List.setIfInBounds_toArray, List.set_cons_zero, List.set_cons_succ]
      obtain ⟨e38, hel38, he38⟩ : ∃ e38 : Int, (e38 = 7 ∨ e38 = 8) ∧ (#[.int .i64 7, .int .i64 8] : Array Value)[r37]? = some (.int .i64 e38) := by
        have hcr : r37 = 0 ∨ r37 = 1 := by omega
        rcases hcr with rfl | rfl
        · exact ⟨7, by omega, rfl⟩
        · exact ⟨8, by omega, rfl⟩
      have HE38 := hide he38
      clear he38
      refine wpAnyH_stronger (S' := fun W => W.cell? ⟨bl36, r37, none⟩ = some (.int .i64 e38)) (fun _ _ => trivial) ?_
      refine wpAnyH_take (i := 4) (oi := { dst := some 51, op := Op.load 3 (Operand.tmp 50), type := 3, pos := "law.go:32", after := #[{ on := 3, ground := Ground.data }], guard := none }) (v := ?_) rfl (by kernel_rfl) (by kernel_rfl) (by kernel_rfl) (fun _ _ _ h => h) (Or.inl ⟨by rfl, ?_⟩) (((unhide HB36_37).cell r37).trans HE38.out) ?_
      rotate_left 1
      · intro w hSw
        try dsimp only at hSw
        go_simp
        first
          | done
          | with_reducible rfl
          | rw [if_neg (by omega)]
      try simp only [Act.put, List.setIfInBounds_toArray, List.set_cons_zero, List.set_cons_succ]
      refine wpAnyH_ready (rs := [8]) (by kernel_rfl) (by simp) ?_
      refine AllReadyH.cons (o := { dst := some 55, op := Op.call { callee := Callee.value (Operand.func 5), args := #[Operand.tmp 52, Operand.tmp 53, Operand.tmp 54], argTypes := #[26, 3, 3] }, type := 22, pos := "law.go:32", after := #[{ on := 5, ground := Ground.data }, { on := 6, ground := Ground.data }, { on := 7, ground := Ground.data }, { on := 2, ground := Ground.chain }], guard := none }) rfl (fun K hK => ?_) (AllReadyH.nil)
      go_simp
      go_at_call 5
      refine ((unhide IH) _ g A n c HC37.out HN.out).mono ?_
      rintro e w39 ⟨v39, ts39, rfl, hO39, hT39, hC39, hG39⟩
      obtain ⟨A39, c39, rfl⟩ := owns_form hO39
      have HC39 := hide hC39
      have HT39 := hide hT39
      have hl39 : ts39.length ≤ 1024 := by have := hT39.2.1; omega
      have hlt39 : g < w37.heap.size := (unhide HC37).lt
      have HK39 : Hid (w.grownBy w39 (some g)) := only_trans HK37.out hG39
      have HB36_39 := hide (Blk.grown (unhide HB36_37) hG39 (ne_g hbl36))
      clear HB36_37
      have HR39 := hide hO39
      clear hO39 hT39 hC39 hG39
      try dsimp only
      refine hK.out _ _ (((unhide HB36_39).cell r37).trans HE38.out) (fun _ => ?_)
      clear hK K
      try simp only [Act.put, List.setIfInBounds_toArray, List.set_cons_zero, List.set_cons_succ]
      refine wpAnyH_ready (rs := [9]) (by kernel_rfl) (by simp) ?_
      refine AllReadyH.cons (o := { dst := some 56, op := Op.buildSlice 76 1 #[(0, Operand.tmp 55)], type := 76, pos := "law.go:32", after := #[{ on := 8, ground := Ground.data }], guard := none }) rfl (fun K hK => ?_) (AllReadyH.nil)
      go_simp
      try dsimp only
      have HB40 := hide (Blk.new w39 22 #[.slice A39 ts39.length c39])
      have hbl40 : g < w39.heap.size := (unhide HC39).lt
      have HCa40 := hide ((unhide HC39).alloc (.cells #[.slice A39 ts39.length c39] 22))
      have hGa40 : w39.grownBy (w39.alloc (.cells #[.slice A39 ts39.length c39] 22)) (some g) := only_alloc (only_refl _ _) _
      obtain ⟨w40, hwe40⟩ : ∃ w40, w39.alloc (.cells #[.slice A39 ts39.length c39] 22) = w40 := ⟨_, rfl⟩
      rw [hwe40] at HB40 HCa40 hGa40 ⊢
      have HK40 : Hid (w.grownBy w40 (some g)) := only_trans HK39.out hGa40
      have HR39_40 := hide (owns_other (unhide HR39) hGa40 (row_g (unhide HR39) hlt39))
      clear HR39
      have HB36_40 := hide (Blk.grown (unhide HB36_39) hGa40 (ne_g hbl36))
      clear HB36_39
      clear hGa40 hwe40
      generalize hbe40 : w39.heap.size = bl40 at *
      clear hbe40
      refine hK.out _ _ (((unhide HB36_40).cell r37).trans HE38.out) (fun _ => ?_)
      clear hK K
      try simp only [Act.put, List.setIfInBounds_toArray, List.set_cons_zero, List.set_cons_succ]
      refine wpAnyH_ready (rs := [10]) (by kernel_rfl) (by simp) ?_
      refine AllReadyH.cons (o := { dst := some 57, op := Op.call { callee := Callee.value (Operand.func 26), args := #[Operand.tmp 51, Operand.const (Value.int IntKind.i64 0), Operand.tmp 56], argTypes := #[3, 3, 76] }, type := 22, pos := "law.go:32", after := #[{ on := 4, ground := Ground.data }, { on := 9, ground := Ground.data }, { on := 8, ground := Ground.chain }], guard := none }) rfl (fun K hK => ?_) (AllReadyH.nil)
      go_simp
      go_at_call 26
      refine (make_st2 e38 0 _ 1 1 [(A39, c39, ts39)] rfl (by decide) (blk_in (unhide HB40)) (fun p hp => by simp at hp; subst hp; exact ⟨InC.own (unhide HR39_40), by simp only; omega⟩) HCa40.out HK40.out (tyok_one (by rcases hel38 with q | q <;> subst q <;> decide) (by omega) (unhide HT39))).mono ?_
      rintro e w41 ⟨⟨v41, ts41, rfl, hO41, hT41, hC41, hG41⟩, hGm41⟩
      have HO41 := hide hO41
      have HT41 := hide hT41
      have HC41 := hide hC41
      have HG41 := hide hG41
      have HX41 : Hid (w41.cell? ⟨bl36, r37, none⟩ = some (.int .i64 e38)) := by
        have hb2 := (unhide HB36_40)
        exact ((World.cell?_of_block (hGm41.block bl36 hb2.lt (ne_g hbl36))).trans (hb2.cell r37)).trans HE38.out
      clear hO41 hT41 hC41 hG41 hGm41
      try dsimp only
      refine hK.out _ _ HX41.out (fun _ => ?_)
      clear hK K
      try simp only [Act.put, List.setIfInBounds_toArray, List.set_cons_zero, List.set_cons_succ]
      refine wpAnyH_take (i := 11) (oi := { dst := some 6, op := Op.assign (Operand.tmp 57), type := 22, pos := "law.go:32", after := #[{ on := 10, ground := Ground.data }, { on := 10, ground := Ground.chain }, { on := 0, ground := Ground.phase }, { on := 1, ground := Ground.phase }, { on := 2, ground := Ground.phase }, { on := 3, ground := Ground.phase }, { on := 4, ground := Ground.phase }, { on := 5, ground := Ground.phase }, { on := 6, ground := Ground.phase }, { on := 7, ground := Ground.phase }, { on := 8, ground := Ground.phase }, { on := 9, ground := Ground.phase }, { on := 10, ground := Ground.phase }], guard := none }) (v := ?_) rfl (by kernel_rfl) (by kernel_rfl) (by kernel_rfl) (fun _ _ _ h => h) (Or.inl ⟨by rfl, ?_⟩) (HX41.out) ?_
      rotate_left 1
      · intro w hSw
        try dsimp only at hSw
        go_simp
        first
          | done
          | with_reducible rfl
      try simp only [Act.put, List.setIfInBounds_toArray, List.set_cons_zero, List.set_cons_succ]
      refine wpAnyH_done (by kernel_rfl) ?_ _
      refine NoPanic.normal ?_
      go_wp2_with fail
      go_ret
      exact ⟨v41, ts41, rfl, HO41.out, HT41.out, HC41.out, HG41.out⟩
    · go_simp
      go_at_call 25
      refine (next_st 2 2 rfl (by decide) (by decide) HCd.out HN.out).mono ?_
      rintro e w42 ⟨r42, hr42, rfl, hC42, hG42⟩
      have HC42 := hide hC42
      have hx42 : (0 : Int) ≤ (r42 : Int) := by omega
      have hy42 : (r42 : Int) < 2 := by omega
      have HK42 : Hid (w.grownBy w42 (some g)) := only_trans HKd.out hG42
      clear hC42 hG42
      try dsimp only
      refine hK.out _ _ (trivial) (fun _ => ?_)
      clear hK K
      try simp only [Act.put, List.setIfInBounds_toArray, List.set_cons_zero, List.set_cons_succ]
      refine wpAnyH_ready (rs := [0, 8]) (by kernel_rfl) (by simp) ?_
      refine AllReadyH.cons (o := { dst := some 47, op := Op.buildSlice 23 2 #[(0, Operand.const (Value.int IntKind.i64 7)), (1, Operand.const (Value.int IntKind.i64 8))], type := 23, pos := "law.go:32", after := #[], guard := none }) rfl (fun K hK => ?_) (AllReadyH.cons (o := { dst := some 55, op := Op.call { callee := Callee.value (Operand.func 5), args := #[Operand.tmp 52, Operand.tmp 53, Operand.tmp 54], argTypes := #[26, 3, 3] }, type := 22, pos := "law.go:32", after := #[{ on := 5, ground := Ground.data }, { on := 6, ground := Ground.data }, { on := 7, ground := Ground.data }, { on := 2, ground := Ground.chain }], guard := none }) rfl (fun K hK => ?_) (AllReadyH.nil))
      · go_simp
        try dsimp only
        have HB43 := hide (Blk.new w42 3 #[.int .i64 7, .int .i64 8])
        have hbl43 : g < w42.heap.size := (unhide HC42).lt
        have HCa43 := hide ((unhide HC42).alloc (.cells #[.int .i64 7, .int .i64 8] 3))
        have hGa43 : w42.grownBy (w42.alloc (.cells #[.int .i64 7, .int .i64 8] 3)) (some g) := only_alloc (only_refl _ _) _
        obtain ⟨w43, hwe43⟩ : ∃ w43, w42.alloc (.cells #[.int .i64 7, .int .i64 8] 3) = w43 := ⟨_, rfl⟩
        rw [hwe43] at HB43 HCa43 hGa43 ⊢
        have HK43 : Hid (w.grownBy w43 (some g)) := only_trans HK42.out hGa43
        clear hGa43 hwe43
        generalize hbe43 : w42.heap.size = bl43 at *
        clear hbe43
        refine hK.out _ _ (trivial) (fun _ => ?_)
        clear hK K
        try simp only [Act.put, List.setIfInBounds_toArray, List.set_cons_zero, List.set_cons_succ]
        refine wpAnyH_take (i := 3) (oi := { dst := some 50, op := Op.indexAddr 23 (Operand.tmp 47) (Operand.tmp 49), type := 0, pos := "law.go:32", after := #[{ on := 0, ground := Ground.data }, { on := 2, ground := Ground.data }], guard := none }) (v := ?_) rfl (by kernel_rfl) (by kernel_rfl) (by kernel_rfl) (fun _ _ _ h => h) (Or.inl ⟨by rfl, ?_⟩) (trivial) ?_
        rotate_left 1
        · intro w hSw
          try dsimp only at hSw
          go_simp
          first
            | done
            | with_reducible rfl
            | rw [if_neg (by omega)]
        try simp only [Act.put, List.setIfInBounds_toArray, List.set_cons_zero, List.set_cons_succ]
        obtain ⟨e44, hel44, he44⟩ : ∃ e44 : Int, (e44 = 7 ∨ e44 = 8) ∧ (#[.int .i64 7, .int .i64 8] : Array Value)[r42]? = some (.int .i64 e44) := by
          have hcr : r42 = 0 ∨ r42 = 1 := by omega
          rcases hcr with rfl | rfl
          · exact ⟨7, by omega, rfl⟩
          · exact ⟨8, by omega, rfl⟩
        have HE44 := hide he44
        clear he44
        refine wpAnyH_stronger (S' := fun W => W.cell? ⟨bl43, r42, none⟩ = some (.int .i64 e44)) (fun _ _ => trivial) ?_
        refine wpAnyH_take (i := 4) (oi := { dst := some 51, op := Op.load 3 (Operand.tmp 50), type := 3, pos := "law.go:32", after := #[{ on := 3, ground := Ground.data }], guard := none }) (v := ?_) rfl (by kernel_rfl) (by kernel_rfl) (by kernel_rfl) (fun _ _ _ h => h) (Or.inl ⟨by rfl, ?_⟩) (((unhide HB43).cell r42).trans HE44.out) ?_
        rotate_left 1
        · intro w hSw
          try dsimp only at hSw
          go_simp
          first
            | done
            | with_reducible rfl
            | rw [if_neg (by omega)]
        try simp only [Act.put, List.setIfInBounds_toArray, List.set_cons_zero, List.set_cons_succ]
        refine wpAnyH_ready (rs := [8]) (by kernel_rfl) (by simp) ?_
        refine AllReadyH.cons (o := { dst := some 55, op := Op.call { callee := Callee.value (Operand.func 5), args := #[Operand.tmp 52, Operand.tmp 53, Operand.tmp 54], argTypes := #[26, 3, 3] }, type := 22, pos := "law.go:32", after := #[{ on := 5, ground := Ground.data }, { on := 6, ground := Ground.data }, { on := 7, ground := Ground.data }, { on := 2, ground := Ground.chain }], guard := none }) rfl (fun K hK => ?_) (AllReadyH.nil)
        go_simp
        go_at_call 5
        refine ((unhide IH) _ g A n c HCa43.out HN.out).mono ?_
        rintro e w45 ⟨v45, ts45, rfl, hO45, hT45, hC45, hG45⟩
        obtain ⟨A45, c45, rfl⟩ := owns_form hO45
        have HC45 := hide hC45
        have HT45 := hide hT45
        have hl45 : ts45.length ≤ 1024 := by have := hT45.2.1; omega
        have hlt45 : g < w43.heap.size := (unhide HCa43).lt
        have HK45 : Hid (w.grownBy w45 (some g)) := only_trans HK43.out hG45
        have HB43_45 := hide (Blk.grown (unhide HB43) hG45 (ne_g hbl43))
        clear HB43
        have HR45 := hide hO45
        clear hO45 hT45 hC45 hG45
        try dsimp only
        refine hK.out _ _ (((unhide HB43_45).cell r42).trans HE44.out) (fun _ => ?_)
        clear hK K
        try simp only [Act.put, List.setIfInBounds_toArray, List.set_cons_zero, List.set_cons_succ]
        refine wpAnyH_ready (rs := [9]) (by kernel_rfl) (by simp) ?_
        refine AllReadyH.cons (o := { dst := some 56, op := Op.buildSlice 76 1 #[(0, Operand.tmp 55)], type := 76, pos := "law.go:32", after := #[{ on := 8, ground := Ground.data }], guard := none }) rfl (fun K hK => ?_) (AllReadyH.nil)
        go_simp
        try dsimp only
        have HB46 := hide (Blk.new w45 22 #[.slice A45 ts45.length c45])
        have hbl46 : g < w45.heap.size := (unhide HC45).lt
        have HCa46 := hide ((unhide HC45).alloc (.cells #[.slice A45 ts45.length c45] 22))
        have hGa46 : w45.grownBy (w45.alloc (.cells #[.slice A45 ts45.length c45] 22)) (some g) := only_alloc (only_refl _ _) _
        obtain ⟨w46, hwe46⟩ : ∃ w46, w45.alloc (.cells #[.slice A45 ts45.length c45] 22) = w46 := ⟨_, rfl⟩
        rw [hwe46] at HB46 HCa46 hGa46 ⊢
        have HK46 : Hid (w.grownBy w46 (some g)) := only_trans HK45.out hGa46
        have HR45_46 := hide (owns_other (unhide HR45) hGa46 (row_g (unhide HR45) hlt45))
        clear HR45
        have HB43_46 := hide (Blk.grown (unhide HB43_45) hGa46 (ne_g hbl43))
        clear HB43_45
        clear hGa46 hwe46
        generalize hbe46 : w45.heap.size = bl46 at *
        clear hbe46
        refine hK.out _ _ (((unhide HB43_46).cell r42).trans HE44.out) (fun _ => ?_)
        clear hK K
        try simp only [Act.put, List.setIfInBounds_toArray, List.set_cons_zero, List.set_cons_succ]
        refine wpAnyH_ready (rs := [10]) (by kernel_rfl) (by simp) ?_
        refine AllReadyH.cons (o := { dst := some 57, op := Op.call { callee := Callee.value (Operand.func 26), args := #[Operand.tmp 51, Operand.const (Value.int IntKind.i64 0), Operand.tmp 56], argTypes := #[3, 3, 76] }, type := 22, pos := "law.go:32", after := #[{ on := 4, ground := Ground.data }, { on := 9, ground := Ground.data }, { on := 8, ground := Ground.chain }], guard := none }) rfl (fun K hK => ?_) (AllReadyH.nil)
        go_simp
        go_at_call 26
        refine (make_st2 e44 0 _ 1 1 [(A45, c45, ts45)] rfl (by decide) (blk_in (unhide HB46)) (fun p hp => by simp at hp; subst hp; exact ⟨InC.own (unhide HR45_46), by simp only; omega⟩) HCa46.out HK46.out (tyok_one (by rcases hel44 with q | q <;> subst q <;> decide) (by omega) (unhide HT45))).mono ?_
        rintro e w47 ⟨⟨v47, ts47, rfl, hO47, hT47, hC47, hG47⟩, hGm47⟩
        have HO47 := hide hO47
        have HT47 := hide hT47
        have HC47 := hide hC47
        have HG47 := hide hG47
        have HX47 : Hid (w47.cell? ⟨bl43, r42, none⟩ = some (.int .i64 e44)) := by
          have hb2 := (unhide HB43_46)
          exact ((World.cell?_of_block (hGm47.block bl43 hb2.lt (ne_g hbl43))).trans (hb2.cell r42)).trans HE44.out
        clear hO47 hT47 hC47 hG47 hGm47
        try dsimp only
        refine hK.out _ _ HX47.out (fun _ => ?_)
        clear hK K
        try simp only [Act.put, List.setIfInBounds_toArray, List.set_cons_zero, List.set_cons_succ]
        refine wpAnyH_take (i := 11) (oi := { dst := some 6, op := Op.assign (Operand.tmp 57), type := 22, pos := "law.go:32", after := #[{ on := 10, ground := Ground.data }, { on := 10, ground := Ground.chain }, { on := 0, ground := Ground.phase }, { on := 1, ground := Ground.phase }, { on := 2, ground := Ground.phase }, { on := 3, ground := Ground.phase }, { on := 4, ground := Ground.phase }, { on := 5, ground := Ground.phase }, { on := 6, ground := Ground.phase }, { on := 7, ground := Ground.phase }, { on := 8, ground := Ground.phase }, { on := 9, ground := Ground.phase }, { on := 10, ground := Ground.phase }], guard := none }) (v := ?_) rfl (by kernel_rfl) (by kernel_rfl) (by kernel_rfl) (fun _ _ _ h => h) (Or.inl ⟨by rfl, ?_⟩) (HX47.out) ?_
        rotate_left 1
        · intro w hSw
          try dsimp only at hSw
          go_simp
          first
            | done
            | with_reducible rfl
        try simp only [Act.put, List.setIfInBounds_toArray, List.set_cons_zero, List.set_cons_succ]
        refine wpAnyH_done (by kernel_rfl) ?_ _
        refine NoPanic.normal ?_
        go_wp2_with fail
        go_ret
        exact ⟨v47, ts47, rfl, HO47.out, HT47.out, HC47.out, HG47.out⟩
      · go_simp
        go_at_call 5
        refine ((unhide IH) _ g A n c HC42.out HN.out).mono ?_
        rintro e w48 ⟨v48, ts48, rfl, hO48, hT48, hC48, hG48⟩
        obtain ⟨A48, c48, rfl⟩ := owns_form hO48
        have HC48 := hide hC48
        have HT48 := hide hT48
        have hl48 : ts48.length ≤ 1024 := by have := hT48.2.1; omega
        have hlt48 : g < w42.heap.size := (unhide HC42).lt
        have HK48 : Hid (w.grownBy w48 (some g)) := only_trans HK42.out hG48
        have HR48 := hide hO48
        clear hO48 hT48 hC48 hG48
        try dsimp only
        refine hK.out _ _ (trivial) (fun _ => ?_)
        clear hK K
        try simp only [Act.put, List.setIfInBounds_toArray, List.set_cons_zero, List.set_cons_succ]
        refine wpAnyH_ready (rs := [0, 9]) (by kernel_rfl) (by simp) ?_
        refine AllReadyH.cons (o := { dst := some 47, op := Op.buildSlice 23 2 #[(0, Operand.const (Value.int IntKind.i64 7)), (1, Operand.const (Value.int IntKind.i64 8))], type := 23, pos := "law.go:32", after := #[], guard := none }) rfl (fun K hK => ?_) (AllReadyH.cons (o := { dst := some 56, op := Op.buildSlice 76 1 #[(0, Operand.tmp 55)], type := 76, pos := "law.go:32", after := #[{ on := 8, ground := Ground.data }], guard := none }) rfl (fun K hK => ?_) (AllReadyH.nil))
        · go_simp
          try dsimp only
          have HB49 := hide (Blk.new w48 3 #[.int .i64 7, .int .i64 8])
          have hbl49 : g < w48.heap.size := (unhide HC48).lt
          have HCa49 := hide ((unhide HC48).alloc (.cells #[.int .i64 7, .int .i64 8] 3))
          have hGa49 : w48.grownBy (w48.alloc (.cells #[.int .i64 7, .int .i64 8] 3)) (some g) := only_alloc (only_refl _ _) _
          obtain ⟨w49, hwe49⟩ : ∃ w49, w48.alloc (.cells #[.int .i64 7, .int .i64 8] 3) = w49 := ⟨_, rfl⟩
          rw [hwe49] at HB49 HCa49 hGa49 ⊢
          have HK49 : Hid (w.grownBy w49 (some g)) := only_trans HK48.out hGa49
          have HR48_49 := hide (owns_other (unhide HR48) hGa49 (row_g (unhide HR48) hlt48))
          clear HR48
          clear hGa49 hwe49
          generalize hbe49 : w48.heap.size = bl49 at *
          clear hbe49
          refine hK.out _ _ (trivial) (fun _ => ?_)
          clear hK K
          try simp only [Act.put, List.setIfInBounds_toArray, List.set_cons_zero, List.set_cons_succ]
          refine wpAnyH_take (i := 3) (oi := { dst := some 50, op := Op.indexAddr 23 (Operand.tmp 47) (Operand.tmp 49), type := 0, pos := "law.go:32", after := #[{ on := 0, ground := Ground.data }, { on := 2, ground := Ground.data }], guard := none }) (v := ?_) rfl (by kernel_rfl) (by kernel_rfl) (by kernel_rfl) (fun _ _ _ h => h) (Or.inl ⟨by rfl, ?_⟩) (trivial) ?_
          rotate_left 1
          · intro w hSw
            try dsimp only at hSw
            go_simp
            first
              | done
              | with_reducible rfl
              | rw [if_neg (by omega)]
          try simp only [Act.put, List.setIfInBounds_toArray, List.set_cons_zero, List.set_cons_succ]
          obtain ⟨e50, hel50, he50⟩ : ∃ e50 : Int, (e50 = 7 ∨ e50 = 8) ∧ (#[.int .i64 7, .int .i64 8] : Array Value)[r42]? = some (.int .i64 e50) := by
            have hcr : r42 = 0 ∨ r42 = 1 := by omega
            rcases hcr with rfl | rfl
            · exact ⟨7, by omega, rfl⟩
            · exact ⟨8, by omega, rfl⟩
          have HE50 := hide he50
          clear he50
          refine wpAnyH_stronger (S' := fun W => W.cell? ⟨bl49, r42, none⟩ = some (.int .i64 e50)) (fun _ _ => trivial) ?_
          refine wpAnyH_take (i := 4) (oi := { dst := some 51, op := Op.load 3 (Operand.tmp 50), type := 3, pos := "law.go:32", after := #[{ on := 3, ground := Ground.data }], guard := none }) (v := ?_) rfl (by kernel_rfl) (by kernel_rfl) (by kernel_rfl) (fun _ _ _ h => h) (Or.inl ⟨by rfl, ?_⟩) (((unhide HB49).cell r42).trans HE50.out) ?_
          rotate_left 1
          · intro w hSw
            try dsimp only at hSw
            go_simp
            first
              | done
              | with_reducible rfl
              | rw [if_neg (by omega)]
          try simp only [Act.put, List.setIfInBounds_toArray, List.set_cons_zero, List.set_cons_succ]
          refine wpAnyH_ready (rs := [9]) (by kernel_rfl) (by simp) ?_
          refine AllReadyH.cons (o := { dst := some 56, op := Op.buildSlice 76 1 #[(0, Operand.tmp 55)], type := 76, pos := "law.go:32", after := #[{ on := 8, ground := Ground.data }], guard := none }) rfl (fun K hK => ?_) (AllReadyH.nil)
          go_simp
          try dsimp only
          have HB51 := hide (Blk.new w49 22 #[.slice A48 ts48.length c48])
          have hbl51 : g < w49.heap.size := (unhide HCa49).lt
          have HCa51 := hide ((unhide HCa49).alloc (.cells #[.slice A48 ts48.length c48] 22))
          have hGa51 : w49.grownBy (w49.alloc (.cells #[.slice A48 ts48.length c48] 22)) (some g) := only_alloc (only_refl _ _) _
          obtain ⟨w51, hwe51⟩ : ∃ w51, w49.alloc (.cells #[.slice A48 ts48.length c48] 22) = w51 := ⟨_, rfl⟩
          rw [hwe51] at HB51 HCa51 hGa51 ⊢
          have HK51 : Hid (w.grownBy w51 (some g)) := only_trans HK49.out hGa51
          have HR48_51 := hide (owns_other (unhide HR48_49) hGa51 (row_g (unhide HR48_49) hlt48))
          clear HR48_49
          have HB49_51 := hide (Blk.grown (unhide HB49) hGa51 (ne_g hbl49))
          clear HB49
          clear hGa51 hwe51
          generalize hbe51 : w49.heap.size = bl51 at *
          clear hbe51
          refine hK.out _ _ (((unhide HB49_51).cell r42).trans HE50.out) (fun _ => ?_)
          clear hK K
          try simp only [Act.put, List.setIfInBounds_toArray, List.set_cons_zero, List.set_cons_succ]
          refine wpAnyH_ready (rs := [10]) (by kernel_rfl) (by simp) ?_
          refine AllReadyH.cons (o := { dst := some 57, op := Op.call { callee := Callee.value (Operand.func 26), args := #[Operand.tmp 51, Operand.const (Value.int IntKind.i64 0), Operand.tmp 56], argTypes := #[3, 3, 76] }, type := 22, pos := "law.go:32", after := #[{ on := 4, ground := Ground.data }, { on := 9, ground := Ground.data }, { on := 8, ground := Ground.chain }], guard := none }) rfl (fun K hK => ?_) (AllReadyH.nil)
          go_simp
          go_at_call 26
          refine (make_st2 e50 0 _ 1 1 [(A48, c48, ts48)] rfl (by decide) (blk_in (unhide HB51)) (fun p hp => by simp at hp; subst hp; exact ⟨InC.own (unhide HR48_51), by simp only; omega⟩) HCa51.out HK51.out (tyok_one (by rcases hel50 with q | q <;> subst q <;> decide) (by omega) (unhide HT48))).mono ?_
          rintro e w52 ⟨⟨v52, ts52, rfl, hO52, hT52, hC52, hG52⟩, hGm52⟩
          have HO52 := hide hO52
          have HT52 := hide hT52
          have HC52 := hide hC52
          have HG52 := hide hG52
          have HX52 : Hid (w52.cell? ⟨bl49, r42, none⟩ = some (.int .i64 e50)) := by
            have hb2 := (unhide HB49_51)
            exact ((World.cell?_of_block (hGm52.block bl49 hb2.lt (ne_g hbl49))).trans (hb2.cell r42)).trans HE50.out
          clear hO52 hT52 hC52 hG52 hGm52
          try dsimp only
          refine hK.out _ _ HX52.out (fun _ => ?_)
          clear hK K
          try simp only [Act.put, List.setIfInBounds_toArray, List.set_cons_zero, List.set_cons_succ]
          refine wpAnyH_take (i := 11) (oi := { dst := some 6, op := Op.assign (Operand.tmp 57), type := 22, pos := "law.go:32", after := #[{ on := 10, ground := Ground.data }, { on := 10, ground := Ground.chain }, { on := 0, ground := Ground.phase }, { on := 1, ground := Ground.phase }, { on := 2, ground := Ground.phase }, { on := 3, ground := Ground.phase }, { on := 4, ground := Ground.phase }, { on := 5, ground := Ground.phase }, { on := 6, ground := Ground.phase }, { on := 7, ground := Ground.phase }, { on := 8, ground := Ground.phase }, { on := 9, ground := Ground.phase }, { on := 10, ground := Ground.phase }], guard := none }) (v := ?_) rfl (by kernel_rfl) (by kernel_rfl) (by kernel_rfl) (fun _ _ _ h => h) (Or.inl ⟨by rfl, ?_⟩) (HX52.out) ?_
          rotate_left 1
          · intro w hSw
            try dsimp only at hSw
            go_simp
            first
              | done
              | with_reducible rfl
          try simp only [Act.put, List.setIfInBounds_toArray, List.set_cons_zero, List.set_cons_succ]
          refine wpAnyH_done (by kernel_rfl) ?_ _
          refine NoPanic.normal ?_
          go_wp2_with fail
          go_ret
          exact ⟨v52, ts52, rfl, HO52.out, HT52.out, HC52.out, HG52.out⟩
        · go_simp
          try dsimp only
          have HB53 := hide (Blk.new w48 22 #[.slice A48 ts48.length c48])
          have hbl53 : g < w48.heap.size := (unhide HC48).lt
          have HCa53 := hide ((unhide HC48).alloc (.cells #[.slice A48 ts48.length c48] 22))
          have hGa53 : w48.grownBy (w48.alloc (.cells #[.slice A48 ts48.length c48] 22)) (some g) := only_alloc (only_refl _ _) _
          obtain ⟨w53, hwe53⟩ : ∃ w53, w48.alloc (.cells #[.slice A48 ts48.length c48] 22) = w53 := ⟨_, rfl⟩
          rw [hwe53] at HB53 HCa53 hGa53 ⊢
          have HK53 : Hid (w.grownBy w53 (some g)) := only_trans HK48.out hGa53
          have HR48_53 := hide (owns_other (unhide HR48) hGa53 (row_g (unhide HR48) hlt48))
          clear HR48
          clear hGa53 hwe53
          generalize hbe53 : w48.heap.size = bl53 at *
          clear hbe53
          refine hK.out _ _ (trivial) (fun _ => ?_)
          clear hK K
          try simp only [Act.put, List.setIfInBounds_toArray, List.set_cons_zero, List.set_cons_succ]
          refine wpAnyH_ready (rs := [0]) (by kernel_rfl) (by simp) ?_
          refine AllReadyH.cons (o := { dst := some 47, op := Op.buildSlice 23 2 #[(0, Operand.const (Value.int IntKind.i64 7)), (1, Operand.const (Value.int IntKind.i64 8))], type := 23, pos := "law.go:32", after := #[], guard := none }) rfl (fun K hK => ?_) (AllReadyH.nil)
          go_simp
          try dsimp only
          have HB54 := hide (Blk.new w53 3 #[.int .i64 7, .int .i64 8])
          have hbl54 : g < w53.heap.size := (unhide HCa53).lt
          have HCa54 := hide ((unhide HCa53).alloc (.cells #[.int .i64 7, .int .i64 8] 3))
          have hGa54 : w53.grownBy (w53.alloc (.cells #[.int .i64 7, .int .i64 8] 3)) (some g) := only_alloc (only_refl _ _) _
          obtain ⟨w54, hwe54⟩ : ∃ w54, w53.alloc (.cells #[.int .i64 7, .int .i64 8] 3) = w54 := ⟨_, rfl⟩
          rw [hwe54] at HB54 HCa54 hGa54 ⊢
          have HK54 : Hid (w.grownBy w54 (some g)) := only_trans HK53.out hGa54
          have HR48_54 := hide (owns_other (unhide HR48_53) hGa54 (row_g (unhide HR48_53) hlt48))
          clear HR48_53
          have HB53_54 := hide (Blk.grown (unhide HB53) hGa54 (ne_g hbl53))
          clear HB53
          clear hGa54 hwe54
          generalize hbe54 : w53.heap.size = bl54 at *
          clear hbe54
          refine hK.out _ _ (trivial) (fun _ => ?_)
          clear hK K
          try simp only [Act.put, List.setIfInBounds_toArray, List.set_cons_zero, List.set_cons_succ]
          refine wpAnyH_take (i := 3) (oi := { dst := some 50, op := Op.indexAddr 23 (Operand.tmp 47) (Operand.tmp 49), type := 0, pos := "law.go:32", after := #[{ on := 0, ground := Ground.data }, { on := 2, ground := Ground.data }], guard := none }) (v := ?_) rfl (by kernel_rfl) (by kernel_rfl) (by kernel_rfl) (fun _ _ _ h => h) (Or.inl ⟨by rfl, ?_⟩) (trivial) ?_
          rotate_left 1
          · intro w hSw
            try dsimp only at hSw
            go_simp
            first
              | done
              | with_reducible rfl
              | rw [if_neg (by omega)]
          try simp only [Act.put, List.setIfInBounds_toArray, List.set_cons_zero, List.set_cons_succ]
          obtain ⟨e55, hel55, he55⟩ : ∃ e55 : Int, (e55 = 7 ∨ e55 = 8) ∧ (#[.int .i64 7, .int .i64 8] : Array Value)[r42]? = some (.int .i64 e55) := by
            have hcr : r42 = 0 ∨ r42 = 1 := by omega
            rcases hcr with rfl | rfl
            · exact ⟨7, by omega, rfl⟩
            · exact ⟨8, by omega, rfl⟩
          have HE55 := hide he55
          clear he55
          refine wpAnyH_stronger (S' := fun W => W.cell? ⟨bl54, r42, none⟩ = some (.int .i64 e55)) (fun _ _ => trivial) ?_
          refine wpAnyH_take (i := 4) (oi := { dst := some 51, op := Op.load 3 (Operand.tmp 50), type := 3, pos := "law.go:32", after := #[{ on := 3, ground := Ground.data }], guard := none }) (v := ?_) rfl (by kernel_rfl) (by kernel_rfl) (by kernel_rfl) (fun _ _ _ h => h) (Or.inl ⟨by rfl, ?_⟩) (((unhide HB54).cell r42).trans HE55.out) ?_
          rotate_left 1
          · intro w hSw
            try dsimp only at hSw
            go_simp
            first
              | done
              | with_reducible rfl
              | rw [if_neg (by omega)]
          try simp only [Act.put, List.setIfInBounds_toArray, List.set_cons_zero, List.set_cons_succ]
          refine wpAnyH_ready (rs := [10]) (by kernel_rfl) (by simp) ?_
          refine AllReadyH.cons (o := { dst := some 57, op := Op.call { callee := Callee.value (Operand.func 26), args := #[Operand.tmp 51, Operand.const (Value.int IntKind.i64 0), Operand.tmp 56], argTypes := #[3, 3, 76] }, type := 22, pos := "law.go:32", after := #[{ on := 4, ground := Ground.data }, { on := 9, ground := Ground.data }, { on := 8, ground := Ground.chain }], guard := none }) rfl (fun K hK => ?_) (AllReadyH.nil)
          go_simp
          go_at_call 26
          refine (make_st2 e55 0 _ 1 1 [(A48, c48, ts48)] rfl (by decide) (blk_in (unhide HB53_54)) (fun p hp => by simp at hp; subst hp; exact ⟨InC.own (unhide HR48_54), by simp only; omega⟩) HCa54.out HK54.out (tyok_one (by rcases hel55 with q | q <;> subst q <;> decide) (by omega) (unhide HT48))).mono ?_
          rintro e w56 ⟨⟨v56, ts56, rfl, hO56, hT56, hC56, hG56⟩, hGm56⟩
          have HO56 := hide hO56
          have HT56 := hide hT56
          have HC56 := hide hC56
          have HG56 := hide hG56
          have HX56 : Hid (w56.cell? ⟨bl54, r42, none⟩ = some (.int .i64 e55)) := by
            have hb2 := (unhide HB54)
            exact ((World.cell?_of_block (hGm56.block bl54 hb2.lt (ne_g hbl54))).trans (hb2.cell r42)).trans HE55.out
          clear hO56 hT56 hC56 hG56 hGm56
          try dsimp only
          refine hK.out _ _ HX56.out (fun _ => ?_)
          clear hK K
          try simp only [Act.put, List.setIfInBounds_toArray, List.set_cons_zero, List.set_cons_succ]
          refine wpAnyH_take (i := 11) (oi := { dst := some 6, op := Op.assign (Operand.tmp 57), type := 22, pos := "law.go:32", after := #[{ on := 10, ground := Ground.data }, { on := 10, ground := Ground.chain }, { on := 0, ground := Ground.phase }, { on := 1, ground := Ground.phase }, { on := 2, ground := Ground.phase }, { on := 3, ground := Ground.phase }, { on := 4, ground := Ground.phase }, { on := 5, ground := Ground.phase }, { on := 6, ground := Ground.phase }, { on := 7, ground := Ground.phase }, { on := 8, ground := Ground.phase }, { on := 9, ground := Ground.phase }, { on := 10, ground := Ground.phase }], guard := none }) (v := ?_) rfl (by kernel_rfl) (by kernel_rfl) (by kernel_rfl) (fun _ _ _ h => h) (Or.inl ⟨by rfl, ?_⟩) (HX56.out) ?_
          rotate_left 1
          · intro w hSw
            try dsimp only at hSw
            go_simp
            first
              | done
              | with_reducible rfl
          try simp only [Act.put, List.setIfInBounds_toArray, List.set_cons_zero, List.set_cons_succ]
          refine wpAnyH_done (by kernel_rfl) ?_ _
          refine NoPanic.normal ?_
          go_wp2_with fail
          go_ret
          exact ⟨v56, ts56, rfl, HO56.out, HT56.out, HC56.out, HG56.out⟩
  · go_wp2_with fail
    have HCd := hide ((unhide HC1).drew)
    have HKd : Hid (w.grownBy w1.drew (some g)) := only_drewN HK1.out 1
    refine wp_region_noPanic ?_
    refine wp_region_held_drew (S := fun _ => True) (by kernel_rfl) trivial (fun _ => ?_)
    generalize w1.drew = wd at *
    try simp only [Act.put, List.setIfInBounds_toArray, List.set_cons_zero, List.set_cons_succ]
    refine wpAnyH_take (i := 1) (oi := { dst := some 61, op := Op.move (Operand.tmp 0), type := 26, pos := "law.go:34", after := #[], guard := none }) (v := ?_) rfl (by kernel_rfl) (by kernel_rfl) (by kernel_rfl) (fun _ _ _ h => h) (Or.inl ⟨by rfl, ?_⟩) (trivial) ?_
    rotate_left 1
    · intro w hSw
      try dsimp only at hSw
      go_simp
      first
        | done
        | with_reducible rfl
        | rw [if_neg (by omega)]
    try simp only [Act.put, List.setIfInBounds_toArray, List.set_cons_zero, List.set_cons_succ]
    refine wpAnyH_take (i := 5) (oi := { dst := some 65, op := Op.move (Operand.tmp 0), type := 26, pos := "law.go:34", after := #[], guard := none }) (v := ?_) rfl (by kernel_rfl) (by kernel_rfl) (by kernel_rfl) (fun _ _ _ h => h) (Or.inl ⟨by rfl, ?_⟩) (trivial) ?_
    rotate_left 1
    · intro w hSw
      try dsimp only at hSw
      go_simp
      first
        | done
        | with_reducible rfl
        | rw [if_neg (by omega)]
    try simp only [Act.put, List.setIfInBounds_toArray, List.set_cons_zero, List.set_cons_succ]
    refine wpAnyH_take (i := 6) (oi := { dst := some 66, op := Op.move (Operand.tmp 8), type := 3, pos := "law.go:34", after := #[], guard := none }) (v := ?_) rfl (by kernel_rfl) (by kernel_rfl) (by kernel_rfl) (fun _ _ _ h => h) (Or.inl ⟨by rfl, ?_⟩) (trivial) ?_
    rotate_left 1
    · intro w hSw
      try dsimp only at hSw
      go_simp
      first
        | done
        | with_reducible rfl
        | rw [if_neg (by omega)]
    try simp only [Act.put, List.setIfInBounds_toArray, List.set_cons_zero, List.set_cons_succ]
    refine wpAnyH_take (i := 7) (oi := { dst := some 67, op := Op.move (Operand.tmp 2), type := 3, pos := "law.go:34", after := #[], guard := none }) (v := ?_) rfl (by kernel_rfl) (by kernel_rfl) (by kernel_rfl) (fun _ _ _ h => h) (Or.inl ⟨by rfl, ?_⟩) (trivial) ?_
    rotate_left 1
    · intro w hSw
      try dsimp only at hSw
      go_simp
      first
        | done
        | with_reducible rfl
        | rw [if_neg (by omega)]
    try simp only [Act.put, List.setIfInBounds_toArray, List.set_cons_zero, List.set_cons_succ]
    refine wpAnyH_take (i := 9) (oi := { dst := some 69, op := Op.move (Operand.tmp 0), type := 26, pos := "law.go:34", after := #[], guard := none }) (v := ?_) rfl (by kernel_rfl) (by kernel_rfl) (by kernel_rfl) (fun _ _ _ h => h) (Or.inl ⟨by rfl, ?_⟩) (trivial) ?_
    rotate_left 1
    · intro w hSw
      try dsimp only at hSw
      go_simp
      first
        | done
        | with_reducible rfl
        | rw [if_neg (by omega)]
    try simp only [Act.put, List.setIfInBounds_toArray, List.set_cons_zero, List.set_cons_succ]
    refine wpAnyH_take (i := 10) (oi := { dst := some 70, op := Op.move (Operand.tmp 8), type := 3, pos := "law.go:34", after := #[], guard := none }) (v := ?_) rfl (by kernel_rfl) (by kernel_rfl) (by kernel_rfl) (fun _ _ _ h => h) (Or.inl ⟨by rfl, ?_⟩) (trivial) ?_
    rotate_left 1
    · intro w hSw
      try dsimp only at hSw
      go_simp
      first
        | done
        | with_reducible rfl
        | rw [if_neg (by omega)]
    try simp only [Act.put, List.setIfInBounds_toArray, List.set_cons_zero, List.set_cons_succ]
    refine wpAnyH_take (i := 11) (oi := { dst := some 71, op := Op.move (Operand.tmp 2), type := 3, pos := "law.go:34", after := #[], guard := none }) (v := ?_) rfl (by kernel_rfl) (by kernel_rfl) (by kernel_rfl) (fun _ _ _ h => h) (Or.inl ⟨by rfl, ?_⟩) (trivial) ?_
    rotate_left 1
    · intro w hSw
      try dsimp only at hSw
      go_simp
      first
        | done
        | with_reducible rfl
        | rw [if_neg (by omega)]
    try simp only [Act.put, List.setIfInBounds_toArray, List.set_cons_zero, List.set_cons_succ]
    refine wpAnyH_ready (rs := [0, 2]) (by kernel_rfl) (by simp) ?_
    refine AllReadyH.cons (o := { dst := some 60, op := Op.buildSlice 23 3 #[(0, Operand.const (Value.int IntKind.i64 9)), (1, Operand.const (Value.int IntKind.i64 12)), (2, Operand.const (Value.int IntKind.i64 13))], type := 23, pos := "law.go:34", after := #[], guard := none }) rfl (fun K hK => ?_) (AllReadyH.cons (o := { dst := some 62, op := Op.call { callee := Callee.value (Operand.func 25), args := #[Operand.tmp 61, Operand.const (Value.int IntKind.i64 3)], argTypes := #[26, 3] }, type := 3, pos := "law.go:34", after := #[{ on := 1, ground := Ground.data }], guard := none }) rfl (fun K hK => ?_) (AllReadyH.nil))
    · go_simp
      try dsimp only
      have HB57 := hide (Blk.new wd 3 #[.int .i64 9, .int .i64 12, .int .i64 13])
      have hbl57 : g < wd.heap.size := (unhide HCd).lt
      have HCa57 := hide ((unhide HCd).alloc (.cells #[.int .i64 9, .int .i64 12, .int .i64 13] 3))
      have hGa57 : wd.grownBy (wd.alloc (.cells #[.int .i64 9, .int .i64 12, .int .i64 13] 3)) (some g) := only_alloc (only_refl _ _) _
      obtain ⟨w57, hwe57⟩ : ∃ w57, wd.alloc (.cells #[.int .i64 9, .int .i64 12, .int .i64 13] 3) = w57 := ⟨_, rfl⟩
      rw [hwe57] at HB57 HCa57 hGa57 ⊢
      have HK57 : Hid (w.grownBy w57 (some g)) := only_trans HKd.out hGa57
      clear hGa57 hwe57
      generalize hbe57 : wd.heap.size = bl57 at *
      clear hbe57
      refine hK.out _ _ (trivial) (fun _ => ?_)
      clear hK K
      try simp only [Act.put, List.setIfInBounds_toArray, List.set_cons_zero, List.set_cons_succ]
      refine wpAnyH_ready (rs := [2]) (by kernel_rfl) (by simp) ?_
      refine AllReadyH.cons (o := { dst := some 62, op := Op.call { callee := Callee.value (Operand.func 25), args := #[Operand.tmp 61, Operand.const (Value.int IntKind.i64 3)], argTypes := #[26, 3] }, type := 3, pos := "law.go:34", after := #[{ on := 1, ground := Ground.data }], guard := none }) rfl (fun K hK => ?_) (AllReadyH.nil)
      go_simp
      go_at_call 25
      refine (next_st 3 3 rfl (by decide) (by decide) HCa57.out HN.out).mono ?_
      rintro e w58 ⟨r58, hr58, rfl, hC58, hG58⟩
      have HC58 := hide hC58
      have hx58 : (0 : Int) ≤ (r58 : Int) := by omega
      have hy58 : (r58 : Int) < 3 := by omega
      have HK58 : Hid (w.grownBy w58 (some g)) := only_trans HK57.out hG58
      have HB57_58 := hide (Blk.grown (unhide HB57) hG58 (ne_g hbl57))
      clear HB57
      clear hC58 hG58
      try dsimp only
      refine hK.out _ _ (trivial) (fun _ => ?_)
      clear hK K
      try simp only [Act.put, List.setIfInBounds_toArray, List.set_cons_zero, List.set_cons_succ]
      refine wpAnyH_take (i := 3) (oi := { dst := some 63, op := Op.indexAddr 23 (Operand.tmp 60) (Operand.tmp 62), type := 0, pos := "law.go:34", after := #[{ on := 0, ground := Ground.data }, { on := 2, ground := Ground.data }], guard := none }) (v := ?_) rfl (by kernel_rfl) (by kernel_rfl) (by kernel_rfl) (fun _ _ _ h => h) (Or.inl ⟨by rfl, ?_⟩) (trivial) ?_
      rotate_left 1
      · intro w hSw
        try dsimp only at hSw
        go_simp
        first
          | done
          | with_reducible rfl
          | rw [if_neg (by omega)]
      try simp only [Act.put, List.setIfInBounds_toArray, List.set_cons_zero, List.set_cons_succ]
      obtain ⟨e59, hel59, he59⟩ : ∃ e59 : Int, (e59 = 9 ∨ e59 = 12 ∨ e59 = 13) ∧ (#[.int .i64 9, .int .i64 12, .int .i64 13] : Array Value)[r58]? = some (.int .i64 e59) := by
        have hcr : r58 = 0 ∨ r58 = 1 ∨ r58 = 2 := by omega
        rcases hcr with rfl | rfl | rfl
        · exact ⟨9, by omega, rfl⟩
        · exact ⟨12, by omega, rfl⟩
        · exact ⟨13, by omega, rfl⟩
      have HE59 := hide he59
      clear he59
      refine wpAnyH_stronger (S' := fun W => W.cell? ⟨bl57, r58, none⟩ = some (.int .i64 e59)) (fun _ _ => trivial) ?_
      refine wpAnyH_take (i := 4) (oi := { dst := some 64, op := Op.load 3 (Operand.tmp 63), type := 3, pos := "law.go:34", after := #[{ on := 3, ground := Ground.data }], guard := none }) (v := ?_) rfl (by kernel_rfl) (by kernel_rfl) (by kernel_rfl) (fun _ _ _ h => h) (Or.inl ⟨by rfl, ?_⟩) (((unhide HB57_58).cell r58).trans HE59.out) ?_
      rotate_left 1
      · intro w hSw
        try dsimp only at hSw
        go_simp
        first
          | done
          | with_reducible rfl
          | rw [if_neg (by omega)]
      try simp only [Act.put, List.setIfInBounds_toArray, List.set_cons_zero, List.set_cons_succ]
      refine wpAnyH_ready (rs := [8]) (by kernel_rfl) (by simp) ?_
      refine AllReadyH.cons (o := { dst := some 68, op := Op.call { callee := Callee.value (Operand.func 5), args := #[Operand.tmp 65, Operand.tmp 66, Operand.tmp 67], argTypes := #[26, 3, 3] }, type := 22, pos := "law.go:34", after := #[{ on := 5, ground := Ground.data }, { on := 6, ground := Ground.data }, { on := 7, ground := Ground.data }, { on := 2, ground := Ground.chain }], guard := none }) rfl (fun K hK => ?_) (AllReadyH.nil)
      go_simp
      go_at_call 5
      refine ((unhide IH) _ g A n c HC58.out HN.out).mono ?_
      rintro e w60 ⟨v60, ts60, rfl, hO60, hT60, hC60, hG60⟩
      obtain ⟨A60, c60, rfl⟩ := owns_form hO60
      have HC60 := hide hC60
      have HT60 := hide hT60
      have hl60 : ts60.length ≤ 1024 := by have := hT60.2.1; omega
      have hlt60 : g < w58.heap.size := (unhide HC58).lt
      have HK60 : Hid (w.grownBy w60 (some g)) := only_trans HK58.out hG60
      have HB57_60 := hide (Blk.grown (unhide HB57_58) hG60 (ne_g hbl57))
      clear HB57_58
      have HR60 := hide hO60
      clear hO60 hT60 hC60 hG60
      try dsimp only
      refine hK.out _ _ (((unhide HB57_60).cell r58).trans HE59.out) (fun _ => ?_)
      clear hK K
      try simp only [Act.put, List.setIfInBounds_toArray, List.set_cons_zero, List.set_cons_succ]
      refine wpAnyH_ready (rs := [12]) (by kernel_rfl) (by simp) ?_
      refine AllReadyH.cons (o := { dst := some 72, op := Op.call { callee := Callee.value (Operand.func 5), args := #[Operand.tmp 69, Operand.tmp 70, Operand.tmp 71], argTypes := #[26, 3, 3] }, type := 22, pos := "law.go:34", after := #[{ on := 9, ground := Ground.data }, { on := 10, ground := Ground.data }, { on := 11, ground := Ground.data }, { on := 8, ground := Ground.chain }], guard := none }) rfl (fun K hK => ?_) (AllReadyH.nil)
      go_simp
      go_at_call 5
      refine ((unhide IH) _ g A n c HC60.out HN.out).mono ?_
      rintro e w61 ⟨v61, ts61, rfl, hO61, hT61, hC61, hG61⟩
      obtain ⟨A61, c61, rfl⟩ := owns_form hO61
      have HC61 := hide hC61
      have HT61 := hide hT61
      have hl61 : ts61.length ≤ 1024 := by have := hT61.2.1; omega
      have hlt61 : g < w60.heap.size := (unhide HC60).lt
      have HK61 : Hid (w.grownBy w61 (some g)) := only_trans HK60.out hG61
      have HR60_61 := hide (owns_other (unhide HR60) hG61 (row_g (unhide HR60) hlt60))
      clear HR60
      have HB57_61 := hide (Blk.grown (unhide HB57_60) hG61 (ne_g hbl57))
      clear HB57_60
      have HR61 := hide hO61
      clear hO61 hT61 hC61 hG61
      try dsimp only
      refine hK.out _ _ (((unhide HB57_61).cell r58).trans HE59.out) (fun _ => ?_)
      clear hK K
      try simp only [Act.put, List.setIfInBounds_toArray, List.set_cons_zero, List.set_cons_succ]
      refine wpAnyH_ready (rs := [13]) (by kernel_rfl) (by simp) ?_
      refine AllReadyH.cons (o := { dst := some 73, op := Op.buildSlice 76 2 #[(0, Operand.tmp 68), (1, Operand.tmp 72)], type := 76, pos := "law.go:34", after := #[{ on := 8, ground := Ground.data }, { on := 12, ground := Ground.data }], guard := none }) rfl (fun K hK => ?_) (AllReadyH.nil)
      go_simp
      try dsimp only
      have HB62 := hide (Blk.new w61 22 #[.slice A60 ts60.length c60, .slice A61 ts61.length c61])
      have hbl62 : g < w61.heap.size := (unhide HC61).lt
      have HCa62 := hide ((unhide HC61).alloc (.cells #[.slice A60 ts60.length c60, .slice A61 ts61.length c61] 22))
      have hGa62 : w61.grownBy (w61.alloc (.cells #[.slice A60 ts60.length c60, .slice A61 ts61.length c61] 22)) (some g) := only_alloc (only_refl _ _) _
      obtain ⟨w62, hwe62⟩ : ∃ w62, w61.alloc (.cells #[.slice A60 ts60.length c60, .slice A61 ts61.length c61] 22) = w62 := ⟨_, rfl⟩
      rw [hwe62] at HB62 HCa62 hGa62 ⊢
      have HK62 : Hid (w.grownBy w62 (some g)) := only_trans HK61.out hGa62
      have HR60_62 := hide (owns_other (unhide HR60_61) hGa62 (row_g (unhide HR60_61) hlt60))
      clear HR60_61
      have HR61_62 := hide (owns_other (unhide HR61) hGa62 (row_g (unhide HR61) hlt61))
      clear HR61
      have HB57_62 := hide (Blk.grown (unhide HB57_61) hGa62 (ne_g hbl57))
      clear HB57_61
      clear hGa62 hwe62
      generalize hbe62 : w61.heap.size = bl62 at *
      clear hbe62
      refine hK.out _ _ (((unhide HB57_62).cell r58).trans HE59.out) (fun _ => ?_)
      clear hK K
      try simp only [Act.put, List.setIfInBounds_toArray, List.set_cons_zero, List.set_cons_succ]
      refine wpAnyH_ready (rs := [14]) (by kernel_rfl) (by simp) ?_
      refine AllReadyH.cons (o := { dst := some 74, op := Op.call { callee := Callee.value (Operand.func 26), args := #[Operand.tmp 64, Operand.const (Value.int IntKind.i64 0), Operand.tmp 73], argTypes := #[3, 3, 76] }, type := 22, pos := "law.go:34", after := #[{ on := 4, ground := Ground.data }, { on := 13, ground := Ground.data }, { on := 12, ground := Ground.chain }], guard := none }) rfl (fun K hK => ?_) (AllReadyH.nil)
      go_simp
      go_at_call 26
      refine (make_st2 e59 0 _ 2 2 [(A60, c60, ts60), (A61, c61, ts61)] rfl (by decide) (blk_in (unhide HB62)) (fun p hp => by simp at hp; rcases hp with rfl | rfl; exact ⟨InC.own (unhide HR60_62), by simp only; omega⟩; exact ⟨InC.own (unhide HR61_62), by simp only; omega⟩) HCa62.out HK62.out (tyok_two (by rcases hel59 with q | q | q <;> subst q <;> decide) (by omega) (unhide HT60) (unhide HT61))).mono ?_
      rintro e w63 ⟨⟨v63, ts63, rfl, hO63, hT63, hC63, hG63⟩, hGm63⟩
      have HO63 := hide hO63
      have HT63 := hide hT63
      have HC63 := hide hC63
      have HG63 := hide hG63
      have HX63 : Hid (w63.cell? ⟨bl57, r58, none⟩ = some (.int .i64 e59)) := by
        have hb2 := (unhide HB57_62)
        exact ((World.cell?_of_block (hGm63.block bl57 hb2.lt (ne_g hbl57))).trans (hb2.cell r58)).trans HE59.out
      clear hO63 hT63 hC63 hG63 hGm63
      try dsimp only
      refine hK.out _ _ HX63.out (fun _ => ?_)
      clear hK K
      try simp only [Act.put, List.setIfInBounds_toArray, List.set_cons_zero, List.set_cons_succ]
      refine wpAnyH_take (i := 15) (oi := { dst := some 6, op := Op.assign (Operand.tmp 74), type := 22, pos := "law.go:34", after := #[{ on := 14, ground := Ground.data }, { on := 14, ground := Ground.chain }, { on := 0, ground := Ground.phase }, { on := 1, ground := Ground.phase }, { on := 2, ground := Ground.phase }, { on := 3, ground := Ground.phase }, { on := 4, ground := Ground.phase }, { on := 5, ground := Ground.phase }, { on := 6, ground := Ground.phase }, { on := 7, ground := Ground.phase }, { on := 8, ground := Ground.phase }, { on := 9, ground := Ground.phase }, { on := 10, ground := Ground.phase }, { on := 11, ground := Ground.phase }, { on := 12, ground := Ground.phase }, { on := 13, ground := Ground.phase }, { on := 14, ground := Ground.phase }], guard := none }) (v := ?_) rfl (by kernel_rfl) (by kernel_rfl) (by kernel_rfl) (fun _ _ _ h => h) (Or.inl ⟨by rfl, ?_⟩) (HX63.out) ?_
      rotate_left 1
      · intro w hSw
        try dsimp only at hSw
        go_simp
        first
          | done
          | with_reducible rfl
      try simp only [Act.put, List.setIfInBounds_toArray, List.set_cons_zero, List.set_cons_succ]
      refine wpAnyH_done (by kernel_rfl) ?_ _
      refine NoPanic.normal ?_
      go_wp2_with fail
      go_ret
      exact ⟨v63, ts63, rfl, HO63.out, HT63.out, HC63.out, HG63.out⟩
    · go_simp
      go_at_call 25
      refine (next_st 3 3 rfl (by decide) (by decide) HCd.out HN.out).mono ?_
      rintro e w64 ⟨r64, hr64, rfl, hC64, hG64⟩
      have HC64 := hide hC64
      have hx64 : (0 : Int) ≤ (r64 : Int) := by omega
      have hy64 : (r64 : Int) < 3 := by omega
      have HK64 : Hid (w.grownBy w64 (some g)) := only_trans HKd.out hG64
      clear hC64 hG64
      try dsimp only
      refine hK.out _ _ (trivial) (fun _ => ?_)
      clear hK K
      try simp only [Act.put, List.setIfInBounds_toArray, List.set_cons_zero, List.set_cons_succ]
      refine wpAnyH_ready (rs := [0, 8]) (by kernel_rfl) (by simp) ?_
      refine AllReadyH.cons (o := { dst := some 60, op := Op.buildSlice 23 3 #[(0, Operand.const (Value.int IntKind.i64 9)), (1, Operand.const (Value.int IntKind.i64 12)), (2, Operand.const (Value.int IntKind.i64 13))], type := 23, pos := "law.go:34", after := #[], guard := none }) rfl (fun K hK => ?_) (AllReadyH.cons (o := { dst := some 68, op := Op.call { callee := Callee.value (Operand.func 5), args := #[Operand.tmp 65, Operand.tmp 66, Operand.tmp 67], argTypes := #[26, 3, 3] }, type := 22, pos := "law.go:34", after := #[{ on := 5, ground := Ground.data }, { on := 6, ground := Ground.data }, { on := 7, ground := Ground.data }, { on := 2, ground := Ground.chain }], guard := none }) rfl (fun K hK => ?_) (AllReadyH.nil))
      · go_simp
        try dsimp only
        have HB65 := hide (Blk.new w64 3 #[.int .i64 9, .int .i64 12, .int .i64 13])
        have hbl65 : g < w64.heap.size := (unhide HC64).lt
        have HCa65 := hide ((unhide HC64).alloc (.cells #[.int .i64 9, .int .i64 12, .int .i64 13] 3))
        have hGa65 : w64.grownBy (w64.alloc (.cells #[.int .i64 9, .int .i64 12, .int .i64 13] 3)) (some g) := only_alloc (only_refl _ _) _
        obtain ⟨w65, hwe65⟩ : ∃ w65, w64.alloc (.cells #[.int .i64 9, .int .i64 12, .int .i64 13] 3) = w65 := ⟨_, rfl⟩
        rw [hwe65] at HB65 HCa65 hGa65 ⊢
        have HK65 : Hid (w.grownBy w65 (some g)) := only_trans HK64.out hGa65
        clear hGa65 hwe65
        generalize hbe65 : w64.heap.size = bl65 at *
        clear hbe65
        refine hK.out _ _ (trivial) (fun _ => ?_)
        clear hK K
        try simp only [Act.put, List.setIfInBounds_toArray, List.set_cons_zero, List.set_cons_succ]
        refine wpAnyH_take (i := 3) (oi := { dst := some 63, op := Op.indexAddr 23 (Operand.tmp 60) (Operand.tmp 62), type := 0, pos := "law.go:34", after := #[{ on := 0, ground := Ground.data }, { on := 2, ground := Ground.data }], guard := none }) (v := ?_) rfl (by kernel_rfl) (by kernel_rfl) (by kernel_rfl) (fun _ _ _ h => h) (Or.inl ⟨by rfl, ?_⟩) (trivial) ?_
        rotate_left 1
        · intro w hSw
          try dsimp only at hSw
          go_simp
          first
            | done
            | with_reducible rfl
            | rw [if_neg (by omega)]
        try simp only [Act.put, List.setIfInBounds_toArray, List.set_cons_zero, List.set_cons_succ]
        obtain ⟨e66, hel66, he66⟩ : ∃ e66 : Int, (e66 = 9 ∨ e66 = 12 ∨ e66 = 13) ∧ (#[.int .i64 9, .int .i64 12, .int .i64 13] : Array Value)[r64]? = some (.int .i64 e66) := by
          have hcr : r64 = 0 ∨ r64 = 1 ∨ r64 = 2 := by omega
          rcases hcr with rfl | rfl | rfl
          · exact ⟨9, by omega, rfl⟩
          · exact ⟨12, by omega, rfl⟩
          · exact ⟨13, by omega, rfl⟩
        have HE66 := hide he66
        clear he66
        refine wpAnyH_stronger (S' := fun W => W.cell? ⟨bl65, r64, none⟩ = some (.int .i64 e66)) (fun _ _ => trivial) ?_
        refine wpAnyH_take (i := 4) (oi := { dst := some 64, op := Op.load 3 (Operand.tmp 63), type := 3, pos := "law.go:34", after := #[{ on := 3, ground := Ground.data }], guard := none }) (v := ?_) rfl (by kernel_rfl) (by kernel_rfl) (by kernel_rfl) (fun _ _ _ h => h) (Or.inl ⟨by rfl, ?_⟩) (((unhide HB65).cell r64).trans HE66.out) ?_
        rotate_left 1
        · intro w hSw
          try dsimp only at hSw
          go_simp
          first
            | done
            | with_reducible rfl
            | rw [if_neg (by omega)]
        try simp only [Act.put, List.setIfInBounds_toArray, List.set_cons_zero, List.set_cons_succ]
        refine wpAnyH_ready (rs := [8]) (by kernel_rfl) (by simp) ?_
        refine AllReadyH.cons (o := { dst := some 68, op := Op.call { callee := Callee.value (Operand.func 5), args := #[Operand.tmp 65, Operand.tmp 66, Operand.tmp 67], argTypes := #[26, 3, 3] }, type := 22, pos := "law.go:34", after := #[{ on := 5, ground := Ground.data }, { on := 6, ground := Ground.data }, { on := 7, ground := Ground.data }, { on := 2, ground := Ground.chain }], guard := none }) rfl (fun K hK => ?_) (AllReadyH.nil)
        go_simp
        go_at_call 5
        refine ((unhide IH) _ g A n c HCa65.out HN.out).mono ?_
        rintro e w67 ⟨v67, ts67, rfl, hO67, hT67, hC67, hG67⟩
        obtain ⟨A67, c67, rfl⟩ := owns_form hO67
        have HC67 := hide hC67
        have HT67 := hide hT67
        have hl67 : ts67.length ≤ 1024 := by have := hT67.2.1; omega
        have hlt67 : g < w65.heap.size := (unhide HCa65).lt
        have HK67 : Hid (w.grownBy w67 (some g)) := only_trans HK65.out hG67
        have HB65_67 := hide (Blk.grown (unhide HB65) hG67 (ne_g hbl65))
        clear HB65
        have HR67 := hide hO67
        clear hO67 hT67 hC67 hG67
        try dsimp only
        refine hK.out _ _ (((unhide HB65_67).cell r64).trans HE66.out) (fun _ => ?_)
        clear hK K
        try simp only [Act.put, List.setIfInBounds_toArray, List.set_cons_zero, List.set_cons_succ]
        refine wpAnyH_ready (rs := [12]) (by kernel_rfl) (by simp) ?_
        refine AllReadyH.cons (o := { dst := some 72, op := Op.call { callee := Callee.value (Operand.func 5), args := #[Operand.tmp 69, Operand.tmp 70, Operand.tmp 71], argTypes := #[26, 3, 3] }, type := 22, pos := "law.go:34", after := #[{ on := 9, ground := Ground.data }, { on := 10, ground := Ground.data }, { on := 11, ground := Ground.data }, { on := 8, ground := Ground.chain }], guard := none }) rfl (fun K hK => ?_) (AllReadyH.nil)
        go_simp
        go_at_call 5
        refine ((unhide IH) _ g A n c HC67.out HN.out).mono ?_
        rintro e w68 ⟨v68, ts68, rfl, hO68, hT68, hC68, hG68⟩
        obtain ⟨A68, c68, rfl⟩ := owns_form hO68
        have HC68 := hide hC68
        have HT68 := hide hT68
        have hl68 : ts68.length ≤ 1024 := by have := hT68.2.1; omega
        have hlt68 : g < w67.heap.size := (unhide HC67).lt
        have HK68 : Hid (w.grownBy w68 (some g)) := only_trans HK67.out hG68
        have HR67_68 := hide (owns_other (unhide HR67) hG68 (row_g (unhide HR67) hlt67))
        clear HR67
        have HB65_68 := hide (Blk.grown (unhide HB65_67) hG68 (ne_g hbl65))
        clear HB65_67
        have HR68 := hide hO68
        clear hO68 hT68 hC68 hG68
        try dsimp only
        refine hK.out _ _ (((unhide HB65_68).cell r64).trans HE66.out) (fun _ => ?_)
        clear hK K
        try simp only [Act.put, List.setIfInBounds_toArray, List.set_cons_zero, List.set_cons_succ]
        refine wpAnyH_ready (rs := [13]) (by kernel_rfl) (by simp) ?_
        refine AllReadyH.cons (o := { dst := some 73, op := Op.buildSlice 76 2 #[(0, Operand.tmp 68), (1, Operand.tmp 72)], type := 76, pos := "law.go:34", after := #[{ on := 8, ground := Ground.data }, { on := 12, ground := Ground.data }], guard := none }) rfl (fun K hK => ?_) (AllReadyH.nil)
        go_simp
        try dsimp only
        have HB69 := hide (Blk.new w68 22 #[.slice A67 ts67.length c67, .slice A68 ts68.length c68])
        have hbl69 : g < w68.heap.size := (unhide HC68).lt
        have HCa69 := hide ((unhide HC68).alloc (.cells #[.slice A67 ts67.length c67, .slice A68 ts68.length c68] 22))
        have hGa69 : w68.grownBy (w68.alloc (.cells #[.slice A67 ts67.length c67, .slice A68 ts68.length c68] 22)) (some g) := only_alloc (only_refl _ _) _
        obtain ⟨w69, hwe69⟩ : ∃ w69, w68.alloc (.cells #[.slice A67 ts67.length c67, .slice A68 ts68.length c68] 22) = w69 := ⟨_, rfl⟩
        rw [hwe69] at HB69 HCa69 hGa69 ⊢
        have HK69 : Hid (w.grownBy w69 (some g)) := only_trans HK68.out hGa69
        have HR67_69 := hide (owns_other (unhide HR67_68) hGa69 (row_g (unhide HR67_68) hlt67))
        clear HR67_68
        have HR68_69 := hide (owns_other (unhide HR68) hGa69 (row_g (unhide HR68) hlt68))
        clear HR68
        have HB65_69 := hide (Blk.grown (unhide HB65_68) hGa69 (ne_g hbl65))
        clear HB65_68
        clear hGa69 hwe69
        generalize hbe69 : w68.heap.size = bl69 at *
        clear hbe69
        refine hK.out _ _ (((unhide HB65_69).cell r64).trans HE66.out) (fun _ => ?_)
        clear hK K
        try simp only [Act.put, List.setIfInBounds_toArray, List.set_cons_zero, List.set_cons_succ]
        refine wpAnyH_ready (rs := [14]) (by kernel_rfl) (by simp) ?_
        refine AllReadyH.cons (o := { dst := some 74, op := Op.call { callee := Callee.value (Operand.func 26), args := #[Operand.tmp 64, Operand.const (Value.int IntKind.i64 0), Operand.tmp 73], argTypes := #[3, 3, 76] }, type := 22, pos := "law.go:34", after := #[{ on := 4, ground := Ground.data }, { on := 13, ground := Ground.data }, { on := 12, ground := Ground.chain }], guard := none }) rfl (fun K hK => ?_) (AllReadyH.nil)
        go_simp
        go_at_call 26
        refine (make_st2 e66 0 _ 2 2 [(A67, c67, ts67), (A68, c68, ts68)] rfl (by decide) (blk_in (unhide HB69)) (fun p hp => by simp at hp; rcases hp with rfl | rfl; exact ⟨InC.own (unhide HR67_69), by simp only; omega⟩; exact ⟨InC.own (unhide HR68_69), by simp only; omega⟩) HCa69.out HK69.out (tyok_two (by rcases hel66 with q | q | q <;> subst q <;> decide) (by omega) (unhide HT67) (unhide HT68))).mono ?_
        rintro e w70 ⟨⟨v70, ts70, rfl, hO70, hT70, hC70, hG70⟩, hGm70⟩
        have HO70 := hide hO70
        have HT70 := hide hT70
        have HC70 := hide hC70
        have HG70 := hide hG70
        have HX70 : Hid (w70.cell? ⟨bl65, r64, none⟩ = some (.int .i64 e66)) := by
          have hb2 := (unhide HB65_69)
          exact ((World.cell?_of_block (hGm70.block bl65 hb2.lt (ne_g hbl65))).trans (hb2.cell r64)).trans HE66.out
        clear hO70 hT70 hC70 hG70 hGm70
        try dsimp only
        refine hK.out _ _ HX70.out (fun _ => ?_)
        clear hK K
        try simp only [Act.put, List.setIfInBounds_toArray, List.set_cons_zero, List.set_cons_succ]
        refine wpAnyH_take (i := 15) (oi := { dst := some 6, op := Op.assign (Operand.tmp 74), type := 22, pos := "law.go:34", after := #[{ on := 14, ground := Ground.data }, { on := 14, ground := Ground.chain }, { on := 0, ground := Ground.phase }, { on := 1, ground := Ground.phase }, { on := 2, ground := Ground.phase }, { on := 3, ground := Ground.phase }, { on := 4, ground := Ground.phase }, { on := 5, ground := Ground.phase }, { on := 6, ground := Ground.phase }, { on := 7, ground := Ground.phase }, { on := 8, ground := Ground.phase }, { on := 9, ground := Ground.phase }, { on := 10, ground := Ground.phase }, { on := 11, ground := Ground.phase }, { on := 12, ground := Ground.phase }, { on := 13, ground := Ground.phase }, { on := 14, ground := Ground.phase }], guard := none }) (v := ?_) rfl (by kernel_rfl) (by kernel_rfl) (by kernel_rfl) (fun _ _ _ h => h) (Or.inl ⟨by rfl, ?_⟩) (HX70.out) ?_
        rotate_left 1
        · intro w hSw
          try dsimp only at hSw
          go_simp
          first
            | done
            | with_reducible rfl
        try simp only [Act.put, List.setIfInBounds_toArray, List.set_cons_zero, List.set_cons_succ]
        refine wpAnyH_done (by kernel_rfl) ?_ _
        refine NoPanic.normal ?_
        go_wp2_with fail
        go_ret
        exact ⟨v70, ts70, rfl, HO70.out, HT70.out, HC70.out, HG70.out⟩
      · go_simp
        go_at_call 5
        refine ((unhide IH) _ g A n c HC64.out HN.out).mono ?_
        rintro e w71 ⟨v71, ts71, rfl, hO71, hT71, hC71, hG71⟩
        obtain ⟨A71, c71, rfl⟩ := owns_form hO71
        have HC71 := hide hC71
        have HT71 := hide hT71
        have hl71 : ts71.length ≤ 1024 := by have := hT71.2.1; omega
        have hlt71 : g < w64.heap.size := (unhide HC64).lt
        have HK71 : Hid (w.grownBy w71 (some g)) := only_trans HK64.out hG71
        have HR71 := hide hO71
        clear hO71 hT71 hC71 hG71
        try dsimp only
        refine hK.out _ _ (trivial) (fun _ => ?_)
        clear hK K
        try simp only [Act.put, List.setIfInBounds_toArray, List.set_cons_zero, List.set_cons_succ]
        refine wpAnyH_ready (rs := [0, 12]) (by kernel_rfl) (by simp) ?_
        refine AllReadyH.cons (o := { dst := some 60, op := Op.buildSlice 23 3 #[(0, Operand.const (Value.int IntKind.i64 9)), (1, Operand.const (Value.int IntKind.i64 12)), (2, Operand.const (Value.int IntKind.i64 13))], type := 23, pos := "law.go:34", after := #[], guard := none }) rfl (fun K hK => ?_) (AllReadyH.cons (o := { dst := some 72, op := Op.call { callee := Callee.value (Operand.func 5), args := #[Operand.tmp 69, Operand.tmp 70, Operand.tmp 71], argTypes := #[26, 3, 3] }, type := 22, pos := "law.go:34", after := #[{ on := 9, ground := Ground.data }, { on := 10, ground := Ground.data }, { on := 11, ground := Ground.data }, { on := 8, ground := Ground.chain }], guard := none }) rfl (fun K hK => ?_) (AllReadyH.nil))
        · go_simp
          try dsimp only
          have HB72 := hide (Blk.new w71 3 #[.int .i64 9, .int .i64 12, .int .i64 13])
          have hbl72 : g < w71.heap.size := (unhide HC71).lt
          have HCa72 := hide ((unhide HC71).alloc (.cells #[.int .i64 9, .int .i64 12, .int .i64 13] 3))
          have hGa72 : w71.grownBy (w71.alloc (.cells #[.int .i64 9, .int .i64 12, .int .i64 13] 3)) (some g) := only_alloc (only_refl _ _) _
          obtain ⟨w72, hwe72⟩ : ∃ w72, w71.alloc (.cells #[.int .i64 9, .int .i64 12, .int .i64 13] 3) = w72 := ⟨_, rfl⟩
          rw [hwe72] at HB72 HCa72 hGa72 ⊢
          have HK72 : Hid (w.grownBy w72 (some g)) := only_trans HK71.out hGa72
          have HR71_72 := hide (owns_other (unhide HR71) hGa72 (row_g (unhide HR71) hlt71))
          clear HR71
          clear hGa72 hwe72
          generalize hbe72 : w71.heap.size = bl72 at *
          clear hbe72
          refine hK.out _ _ (trivial) (fun _ => ?_)
          clear hK K
          try simp only [Act.put, List.setIfInBounds_toArray, List.set_cons_zero, List.set_cons_succ]
          refine wpAnyH_take (i := 3) (oi := { dst := some 63, op := Op.indexAddr 23 (Operand.tmp 60) (Operand.tmp 62), type := 0, pos := "law.go:34", after := #[{ on := 0, ground := Ground.data }, { on := 2, ground := Ground.data }], guard := none }) (v := ?_) rfl (by kernel_rfl) (by kernel_rfl) (by kernel_rfl) (fun _ _ _ h => h) (Or.inl ⟨by rfl, ?_⟩) (trivial) ?_
          rotate_left 1
          · intro w hSw
            try dsimp only at hSw
            go_simp
            first
              | done
              | with_reducible rfl
              | rw [if_neg (by omega)]
          try simp only [Act.put, List.setIfInBounds_toArray, List.set_cons_zero, List.set_cons_succ]
          obtain ⟨e73, hel73, he73⟩ : ∃ e73 : Int, (e73 = 9 ∨ e73 = 12 ∨ e73 = 13) ∧ (#[.int .i64 9, .int .i64 12, .int .i64 13] : Array Value)[r64]? = some (.int .i64 e73) := by
            have hcr : r64 = 0 ∨ r64 = 1 ∨ r64 = 2 := by omega
            rcases hcr with rfl | rfl | rfl
            · exact ⟨9, by omega, rfl⟩
            · exact ⟨12, by omega, rfl⟩
            · exact ⟨13, by omega, rfl⟩
          have HE73 := hide he73
          clear he73
          refine wpAnyH_stronger (S' := fun W => W.cell? ⟨bl72, r64, none⟩ = some (.int .i64 e73)) (fun _ _ => trivial) ?_
          refine wpAnyH_take (i := 4) (oi := { dst := some 64, op := Op.load 3 (Operand.tmp 63), type := 3, pos := "law.go:34", after := #[{ on := 3, ground := Ground.data }], guard := none }) (v := ?_) rfl (by kernel_rfl) (by kernel_rfl) (by kernel_rfl) (fun _ _ _ h => h) (Or.inl ⟨by rfl, ?_⟩) (((unhide HB72).cell r64).trans HE73.out) ?_
          rotate_left 1
          · intro w hSw
            try dsimp only at hSw
            go_simp
            first
              | done
              | with_reducible rfl
              | rw [if_neg (by omega)]
          try simp only [Act.put, List.setIfInBounds_toArray, List.set_cons_zero, List.set_cons_succ]
          refine wpAnyH_ready (rs := [12]) (by kernel_rfl) (by simp) ?_
          refine AllReadyH.cons (o := { dst := some 72, op := Op.call { callee := Callee.value (Operand.func 5), args := #[Operand.tmp 69, Operand.tmp 70, Operand.tmp 71], argTypes := #[26, 3, 3] }, type := 22, pos := "law.go:34", after := #[{ on := 9, ground := Ground.data }, { on := 10, ground := Ground.data }, { on := 11, ground := Ground.data }, { on := 8, ground := Ground.chain }], guard := none }) rfl (fun K hK => ?_) (AllReadyH.nil)
          go_simp
          go_at_call 5
          refine ((unhide IH) _ g A n c HCa72.out HN.out).mono ?_
          rintro e w74 ⟨v74, ts74, rfl, hO74, hT74, hC74, hG74⟩
          obtain ⟨A74, c74, rfl⟩ := owns_form hO74
          have HC74 := hide hC74
          have HT74 := hide hT74
          have hl74 : ts74.length ≤ 1024 := by have := hT74.2.1; omega
          have hlt74 : g < w72.heap.size := (unhide HCa72).lt
          have HK74 : Hid (w.grownBy w74 (some g)) := only_trans HK72.out hG74
          have HR71_74 := hide (owns_other (unhide HR71_72) hG74 (row_g (unhide HR71_72) hlt71))
          clear HR71_72
          have HB72_74 := hide (Blk.grown (unhide HB72) hG74 (ne_g hbl72))
          clear HB72
          have HR74 := hide hO74
          clear hO74 hT74 hC74 hG74
          try dsimp only
          refine hK.out _ _ (((unhide HB72_74).cell r64).trans HE73.out) (fun _ => ?_)
          clear hK K
          try simp only [Act.put, List.setIfInBounds_toArray, List.set_cons_zero, List.set_cons_succ]
          refine wpAnyH_ready (rs := [13]) (by kernel_rfl) (by simp) ?_
          refine AllReadyH.cons (o := { dst := some 73, op := Op.buildSlice 76 2 #[(0, Operand.tmp 68), (1, Operand.tmp 72)], type := 76, pos := "law.go:34", after := #[{ on := 8, ground := Ground.data }, { on := 12, ground := Ground.data }], guard := none }) rfl (fun K hK => ?_) (AllReadyH.nil)
          go_simp
          try dsimp only
          have HB75 := hide (Blk.new w74 22 #[.slice A71 ts71.length c71, .slice A74 ts74.length c74])
          have hbl75 : g < w74.heap.size := (unhide HC74).lt
          have HCa75 := hide ((unhide HC74).alloc (.cells #[.slice A71 ts71.length c71, .slice A74 ts74.length c74] 22))
          have hGa75 : w74.grownBy (w74.alloc (.cells #[.slice A71 ts71.length c71, .slice A74 ts74.length c74] 22)) (some g) := only_alloc (only_refl _ _) _
          obtain ⟨w75, hwe75⟩ : ∃ w75, w74.alloc (.cells #[.slice A71 ts71.length c71, .slice A74 ts74.length c74] 22) = w75 := ⟨_, rfl⟩
          rw [hwe75] at HB75 HCa75 hGa75 ⊢
          have HK75 : Hid (w.grownBy w75 (some g)) := only_trans HK74.out hGa75
          have HR71_75 := hide (owns_other (unhide HR71_74) hGa75 (row_g (unhide HR71_74) hlt71))
          clear HR71_74
          have HR74_75 := hide (owns_other (unhide HR74) hGa75 (row_g (unhide HR74) hlt74))
          clear HR74
          have HB72_75 := hide (Blk.grown (unhide HB72_74) hGa75 (ne_g hbl72))
          clear HB72_74
          clear hGa75 hwe75
          generalize hbe75 : w74.heap.size = bl75 at *
          clear hbe75
          refine hK.out _ _ (((unhide HB72_75).cell r64).trans HE73.out) (fun _ => ?_)
          clear hK K
          try simp only [Act.put, List.setIfInBounds_toArray, List.set_cons_zero, List.set_cons_succ]
          refine wpAnyH_ready (rs := [14]) (by kernel_rfl) (by simp) ?_
          refine AllReadyH.cons (o := { dst := some 74, op := Op.call { callee := Callee.value (Operand.func 26), args := #[Operand.tmp 64, Operand.const (Value.int IntKind.i64 0), Operand.tmp 73], argTypes := #[3, 3, 76] }, type := 22, pos := "law.go:34", after := #[{ on := 4, ground := Ground.data }, { on := 13, ground := Ground.data }, { on := 12, ground := Ground.chain }], guard := none }) rfl (fun K hK => ?_) (AllReadyH.nil)
          go_simp
          go_at_call 26
          refine (make_st2 e73 0 _ 2 2 [(A71, c71, ts71), (A74, c74, ts74)] rfl (by decide) (blk_in (unhide HB75)) (fun p hp => by simp at hp; rcases hp with rfl | rfl; exact ⟨InC.own (unhide HR71_75), by simp only; omega⟩; exact ⟨InC.own (unhide HR74_75), by simp only; omega⟩) HCa75.out HK75.out (tyok_two (by rcases hel73 with q | q | q <;> subst q <;> decide) (by omega) (unhide HT71) (unhide HT74))).mono ?_
          rintro e w76 ⟨⟨v76, ts76, rfl, hO76, hT76, hC76, hG76⟩, hGm76⟩
          have HO76 := hide hO76
          have HT76 := hide hT76
          have HC76 := hide hC76
          have HG76 := hide hG76
          have HX76 : Hid (w76.cell? ⟨bl72, r64, none⟩ = some (.int .i64 e73)) := by
            have hb2 := (unhide HB72_75)
            exact ((World.cell?_of_block (hGm76.block bl72 hb2.lt (ne_g hbl72))).trans (hb2.cell r64)).trans HE73.out
          clear hO76 hT76 hC76 hG76 hGm76
          try dsimp only
          refine hK.out _ _ HX76.out (fun _ => ?_)
          clear hK K
          try simp only [Act.put, List.setIfInBounds_toArray, List.set_cons_zero, List.set_cons_succ]
          refine wpAnyH_take (i := 15) (oi := { dst := some 6, op := Op.assign (Operand.tmp 74), type := 22, pos := "law.go:34", after := #[{ on := 14, ground := Ground.data }, { on := 14, ground := Ground.chain }, { on := 0, ground := Ground.phase }, { on := 1, ground := Ground.phase }, { on := 2, ground := Ground.phase }, { on := 3, ground := Ground.phase }, { on := 4, ground := Ground.phase }, { on := 5, ground := Ground.phase }, { on := 6, ground := Ground.phase }, { on := 7, ground := Ground.phase }, { on := 8, ground := Ground.phase }, { on := 9, ground := Ground.phase }, { on := 10, ground := Ground.phase }, { on := 11, ground := Ground.phase }, { on := 12, ground := Ground.phase }, { on := 13, ground := Ground.phase }, { on := 14, ground := Ground.phase }], guard := none }) (v := ?_) rfl (by kernel_rfl) (by kernel_rfl) (by kernel_rfl) (fun _ _ _ h => h) (Or.inl ⟨by rfl, ?_⟩) (HX76.out) ?_
          rotate_left 1
          · intro w hSw
            try dsimp only at hSw
            go_simp
            first
              | done
              | with_reducible rfl
          try simp only [Act.put, List.setIfInBounds_toArray, List.set_cons_zero, List.set_cons_succ]
          refine wpAnyH_done (by kernel_rfl) ?_ _
          refine NoPanic.normal ?_
          go_wp2_with fail
          go_ret
          exact ⟨v76, ts76, rfl, HO76.out, HT76.out, HC76.out, HG76.out⟩
        · go_simp
          go_at_call 5
          refine ((unhide IH) _ g A n c HC71.out HN.out).mono ?_
          rintro e w77 ⟨v77, ts77, rfl, hO77, hT77, hC77, hG77⟩
          obtain ⟨A77, c77, rfl⟩ := owns_form hO77
          have HC77 := hide hC77
          have HT77 := hide hT77
          have hl77 : ts77.length ≤ 1024 := by have := hT77.2.1; omega
          have hlt77 : g < w71.heap.size := (unhide HC71).lt
          have HK77 : Hid (w.grownBy w77 (some g)) := only_trans HK71.out hG77
          have HR71_77 := hide (owns_other (unhide HR71) hG77 (row_g (unhide HR71) hlt71))
          clear HR71
          have HR77 := hide hO77
          clear hO77 hT77 hC77 hG77
          try dsimp only
          refine hK.out _ _ (trivial) (fun _ => ?_)
          clear hK K
          try simp only [Act.put, List.setIfInBounds_toArray, List.set_cons_zero, List.set_cons_succ]
          refine wpAnyH_ready (rs := [0, 13]) (by kernel_rfl) (by simp) ?_
          refine AllReadyH.cons (o := { dst := some 60, op := Op.buildSlice 23 3 #[(0, Operand.const (Value.int IntKind.i64 9)), (1, Operand.const (Value.int IntKind.i64 12)), (2, Operand.const (Value.int IntKind.i64 13))], type := 23, pos := "law.go:34", after := #[], guard := none }) rfl (fun K hK => ?_) (AllReadyH.cons (o := { dst := some 73, op := Op.buildSlice 76 2 #[(0, Operand.tmp 68), (1, Operand.tmp 72)], type := 76, pos := "law.go:34", after := #[{ on := 8, ground := Ground.data }, { on := 12, ground := Ground.data }], guard := none }) rfl (fun K hK => ?_) (AllReadyH.nil))
          · go_simp
            try dsimp only
            have HB78 := hide (Blk.new w77 3 #[.int .i64 9, .int .i64 12, .int .i64 13])
            have hbl78 : g < w77.heap.size := (unhide HC77).lt
            have HCa78 := hide ((unhide HC77).alloc (.cells #[.int .i64 9, .int .i64 12, .int .i64 13] 3))
            have hGa78 : w77.grownBy (w77.alloc (.cells #[.int .i64 9, .int .i64 12, .int .i64 13] 3)) (some g) := only_alloc (only_refl _ _) _
            obtain ⟨w78, hwe78⟩ : ∃ w78, w77.alloc (.cells #[.int .i64 9, .int .i64 12, .int .i64 13] 3) = w78 := ⟨_, rfl⟩
            rw [hwe78] at HB78 HCa78 hGa78 ⊢
            have HK78 : Hid (w.grownBy w78 (some g)) := only_trans HK77.out hGa78
            have HR71_78 := hide (owns_other (unhide HR71_77) hGa78 (row_g (unhide HR71_77) hlt71))
            clear HR71_77
            have HR77_78 := hide (owns_other (unhide HR77) hGa78 (row_g (unhide HR77) hlt77))
            clear HR77
            clear hGa78 hwe78
            generalize hbe78 : w77.heap.size = bl78 at *
            clear hbe78
            refine hK.out _ _ (trivial) (fun _ => ?_)
            clear hK K
            try simp only [Act.put, List.setIfInBounds_toArray, List.set_cons_zero, List.set_cons_succ]
            refine wpAnyH_take (i := 3) (oi := { dst := some 63, op := Op.indexAddr 23 (Operand.tmp 60) (Operand.tmp 62), type := 0, pos := "law.go:34", after := #[{ on := 0, ground := Ground.data }, { on := 2, ground := Ground.data }], guard := none }) (v := ?_) rfl (by kernel_rfl) (by kernel_rfl) (by kernel_rfl) (fun _ _ _ h => h) (Or.inl ⟨by rfl, ?_⟩) (trivial) ?_
            rotate_left 1
            · intro w hSw
              try dsimp only at hSw
              go_simp
              first
                | done
                | with_reducible rfl
                | rw [if_neg (by omega)]
            try simp only [Act.put, List.setIfInBounds_toArray, List.set_cons_zero, List.set_cons_succ]
            obtain ⟨e79, hel79, he79⟩ : ∃ e79 : Int, (e79 = 9 ∨ e79 = 12 ∨ e79 = 13) ∧ (#[.int .i64 9, .int .i64 12, .int .i64 13] : Array Value)[r64]? = some (.int .i64 e79) := by
              have hcr : r64 = 0 ∨ r64 = 1 ∨ r64 = 2 := by omega
              rcases hcr with rfl | rfl | rfl
              · exact ⟨9, by omega, rfl⟩
              · exact ⟨12, by omega, rfl⟩
              · exact ⟨13, by omega, rfl⟩
            have HE79 := hide he79
            clear he79
            refine wpAnyH_stronger (S' := fun W => W.cell? ⟨bl78, r64, none⟩ = some (.int .i64 e79)) (fun _ _ => trivial) ?_
            refine wpAnyH_take (i := 4) (oi := { dst := some 64, op := Op.load 3 (Operand.tmp 63), type := 3, pos := "law.go:34", after := #[{ on := 3, ground := Ground.data }], guard := none }) (v := ?_) rfl (by kernel_rfl) (by kernel_rfl) (by kernel_rfl) (fun _ _ _ h => h) (Or.inl ⟨by rfl, ?_⟩) (((unhide HB78).cell r64).trans HE79.out) ?_
            rotate_left 1
            · intro w hSw
              try dsimp only at hSw
              go_simp
              first
                | done
                | with_reducible rfl
                | rw [if_neg (by omega)]
            try simp only [Act.put, List.setIfInBounds_toArray, List.set_cons_zero, List.set_cons_succ]
            refine wpAnyH_ready (rs := [13]) (by kernel_rfl) (by simp) ?_
            refine AllReadyH.cons (o := { dst := some 73, op := Op.buildSlice 76 2 #[(0, Operand.tmp 68), (1, Operand.tmp 72)], type := 76, pos := "law.go:34", after := #[{ on := 8, ground := Ground.data }, { on := 12, ground := Ground.data }], guard := none }) rfl (fun K hK => ?_) (AllReadyH.nil)
            go_simp
            try dsimp only
            have HB80 := hide (Blk.new w78 22 #[.slice A71 ts71.length c71, .slice A77 ts77.length c77])
            have hbl80 : g < w78.heap.size := (unhide HCa78).lt
            have HCa80 := hide ((unhide HCa78).alloc (.cells #[.slice A71 ts71.length c71, .slice A77 ts77.length c77] 22))
            have hGa80 : w78.grownBy (w78.alloc (.cells #[.slice A71 ts71.length c71, .slice A77 ts77.length c77] 22)) (some g) := only_alloc (only_refl _ _) _
            obtain ⟨w80, hwe80⟩ : ∃ w80, w78.alloc (.cells #[.slice A71 ts71.length c71, .slice A77 ts77.length c77] 22) = w80 := ⟨_, rfl⟩
            rw [hwe80] at HB80 HCa80 hGa80 ⊢
            have HK80 : Hid (w.grownBy w80 (some g)) := only_trans HK78.out hGa80
            have HR71_80 := hide (owns_other (unhide HR71_78) hGa80 (row_g (unhide HR71_78) hlt71))
            clear HR71_78
            have HR77_80 := hide (owns_other (unhide HR77_78) hGa80 (row_g (unhide HR77_78) hlt77))
            clear HR77_78
            have HB78_80 := hide (Blk.grown (unhide HB78) hGa80 (ne_g hbl78))
            clear HB78
            clear hGa80 hwe80
            generalize hbe80 : w78.heap.size = bl80 at *
            clear hbe80
            refine hK.out _ _ (((unhide HB78_80).cell r64).trans HE79.out) (fun _ => ?_)
            clear hK K
            try simp only [Act.put, List.setIfInBounds_toArray, List.set_cons_zero, List.set_cons_succ]
            refine wpAnyH_ready (rs := [14]) (by kernel_rfl) (by simp) ?_
            refine AllReadyH.cons (o := { dst := some 74, op := Op.call { callee := Callee.value (Operand.func 26), args := #[Operand.tmp 64, Operand.const (Value.int IntKind.i64 0), Operand.tmp 73], argTypes := #[3, 3, 76] }, type := 22, pos := "law.go:34", after := #[{ on := 4, ground := Ground.data }, { on := 13, ground := Ground.data }, { on := 12, ground := Ground.chain }], guard := none }) rfl (fun K hK => ?_) (AllReadyH.nil)
            go_simp
            go_at_call 26
            refine (make_st2 e79 0 _ 2 2 [(A71, c71, ts71), (A77, c77, ts77)] rfl (by decide) (blk_in (unhide HB80)) (fun p hp => by simp at hp; rcases hp with rfl | rfl; exact ⟨InC.own (unhide HR71_80), by simp only; omega⟩; exact ⟨InC.own (unhide HR77_80), by simp only; omega⟩) HCa80.out HK80.out (tyok_two (by rcases hel79 with q | q | q <;> subst q <;> decide) (by omega) (unhide HT71) (unhide HT77))).mono ?_
            rintro e w81 ⟨⟨v81, ts81, rfl, hO81, hT81, hC81, hG81⟩, hGm81⟩
            have HO81 := hide hO81
            have HT81 := hide hT81
            have HC81 := hide hC81
            have HG81 := hide hG81
            have HX81 : Hid (w81.cell? ⟨bl78, r64, none⟩ = some (.int .i64 e79)) := by
              have hb2 := (unhide HB78_80)
              exact ((World.cell?_of_block (hGm81.block bl78 hb2.lt (ne_g hbl78))).trans (hb2.cell r64)).trans HE79.out
            clear hO81 hT81 hC81 hG81 hGm81
            try dsimp only
            refine hK.out _ _ HX81.out (fun _ => ?_)
            clear hK K
            try simp only [Act.put, List.setIfInBounds_toArray, List.set_cons_zero, List.set_cons_succ]
            refine wpAnyH_take (i := 15) (oi := { dst := some 6, op := Op.assign (Operand.tmp 74), type := 22, pos := "law.go:34", after := #[{ on := 14, ground := Ground.data }, { on := 14, ground := Ground.chain }, { on := 0, ground := Ground.phase }, { on := 1, ground := Ground.phase }, { on := 2, ground := Ground.phase }, { on := 3, ground := Ground.phase }, { on := 4, ground := Ground.phase }, { on := 5, ground := Ground.phase }, { on := 6, ground := Ground.phase }, { on := 7, ground := Ground.phase }, { on := 8, ground := Ground.phase }, { on := 9, ground := Ground.phase }, { on := 10, ground := Ground.phase }, { on := 11, ground := Ground.phase }, { on := 12, ground := Ground.phase }, { on := 13, ground := Ground.phase }, { on := 14, ground := Ground.phase }], guard := none }) (v := ?_) rfl (by kernel_rfl) (by kernel_rfl) (by kernel_rfl) (fun _ _ _ h => h) (Or.inl ⟨by rfl, ?_⟩) (HX81.out) ?_
            rotate_left 1
            · intro w hSw
              try dsimp only at hSw
              go_simp
              first
                | done
                | with_reducible rfl
            try simp only [Act.put, List.setIfInBounds_toArray, List.set_cons_zero, List.set_cons_succ]
            refine wpAnyH_done (by kernel_rfl) ?_ _
            refine NoPanic.normal ?_
            go_wp2_with fail
            go_ret
            exact ⟨v81, ts81, rfl, HO81.out, HT81.out, HC81.out, HG81.out⟩
          · go_simp
            try dsimp only
            have HB82 := hide (Blk.new w77 22 #[.slice A71 ts71.length c71, .slice A77 ts77.length c77])
            have hbl82 : g < w77.heap.size := (unhide HC77).lt
            have HCa82 := hide ((unhide HC77).alloc (.cells #[.slice A71 ts71.length c71, .slice A77 ts77.length c77] 22))
            have hGa82 : w77.grownBy (w77.alloc (.cells #[.slice A71 ts71.length c71, .slice A77 ts77.length c77] 22)) (some g) := only_alloc (only_refl _ _) _
            obtain ⟨w82, hwe82⟩ : ∃ w82, w77.alloc (.cells #[.slice A71 ts71.length c71, .slice A77 ts77.length c77] 22) = w82 := ⟨_, rfl⟩
            rw [hwe82] at HB82 HCa82 hGa82 ⊢
            have HK82 : Hid (w.grownBy w82 (some g)) := only_trans HK77.out hGa82
            have HR71_82 := hide (owns_other (unhide HR71_77) hGa82 (row_g (unhide HR71_77) hlt71))
            clear HR71_77
            have HR77_82 := hide (owns_other (unhide HR77) hGa82 (row_g (unhide HR77) hlt77))
            clear HR77
            clear hGa82 hwe82
            generalize hbe82 : w77.heap.size = bl82 at *
            clear hbe82
            refine hK.out _ _ (trivial) (fun _ => ?_)
            clear hK K
            try simp only [Act.put, List.setIfInBounds_toArray, List.set_cons_zero, List.set_cons_succ]
            refine wpAnyH_ready (rs := [0]) (by kernel_rfl) (by simp) ?_
            refine AllReadyH.cons (o := { dst := some 60, op := Op.buildSlice 23 3 #[(0, Operand.const (Value.int IntKind.i64 9)), (1, Operand.const (Value.int IntKind.i64 12)), (2, Operand.const (Value.int IntKind.i64 13))], type := 23, pos := "law.go:34", after := #[], guard := none }) rfl (fun K hK => ?_) (AllReadyH.nil)
            go_simp
            try dsimp only
            have HB83 := hide (Blk.new w82 3 #[.int .i64 9, .int .i64 12, .int .i64 13])
            have hbl83 : g < w82.heap.size := (unhide HCa82).lt
            have HCa83 := hide ((unhide HCa82).alloc (.cells #[.int .i64 9, .int .i64 12, .int .i64 13] 3))
            have hGa83 : w82.grownBy (w82.alloc (.cells #[.int .i64 9, .int .i64 12, .int .i64 13] 3)) (some g) := only_alloc (only_refl _ _) _
            obtain ⟨w83, hwe83⟩ : ∃ w83, w82.alloc (.cells #[.int .i64 9, .int .i64 12, .int .i64 13] 3) = w83 := ⟨_, rfl⟩
            rw [hwe83] at HB83 HCa83 hGa83 ⊢
            have HK83 : Hid (w.grownBy w83 (some g)) := only_trans HK82.out hGa83
            have HR71_83 := hide (owns_other (unhide HR71_82) hGa83 (row_g (unhide HR71_82) hlt71))
            clear HR71_82
            have HR77_83 := hide (owns_other (unhide HR77_82) hGa83 (row_g (unhide HR77_82) hlt77))
            clear HR77_82
            have HB82_83 := hide (Blk.grown (unhide HB82) hGa83 (ne_g hbl82))
            clear HB82
            clear hGa83 hwe83
            generalize hbe83 : w82.heap.size = bl83 at *
            clear hbe83
            refine hK.out _ _ (trivial) (fun _ => ?_)
            clear hK K
            try simp only [Act.put, List.setIfInBounds_toArray, List.set_cons_zero, List.set_cons_succ]
            refine wpAnyH_take (i := 3) (oi := { dst := some 63, op := Op.indexAddr 23 (Operand.tmp 60) (Operand.tmp 62), type := 0, pos := "law.go:34", after := #[{ on := 0, ground := Ground.data }, { on := 2, ground := Ground.data }], guard := none }) (v := ?_) rfl (by kernel_rfl) (by kernel_rfl) (by kernel_rfl) (fun _ _ _ h => h) (Or.inl ⟨by rfl, ?_⟩) (trivial) ?_
            rotate_left 1
            · intro w hSw
              try dsimp only at hSw
              go_simp
              first
                | done
                | with_reducible rfl
                | rw [if_neg (by omega)]
            try simp only [Act.put, List.setIfInBounds_toArray, List.set_cons_zero, List.set_cons_succ]
            obtain ⟨e84, hel84, he84⟩ : ∃ e84 : Int, (e84 = 9 ∨ e84 = 12 ∨ e84 = 13) ∧ (#[.int .i64 9, .int .i64 12, .int .i64 13] : Array Value)[r64]? = some (.int .i64 e84) := by
              have hcr : r64 = 0 ∨ r64 = 1 ∨ r64 = 2 := by omega
              rcases hcr with rfl | rfl | rfl
              · exact ⟨9, by omega, rfl⟩
              · exact ⟨12, by omega, rfl⟩
              · exact ⟨13, by omega, rfl⟩
            have HE84 := hide he84
            clear he84
            refine wpAnyH_stronger (S' := fun W => W.cell? ⟨bl83, r64, none⟩ = some (.int .i64 e84)) (fun _ _ => trivial) ?_
            refine wpAnyH_take (i := 4) (oi := { dst := some 64, op := Op.load 3 (Operand.tmp 63), type := 3, pos := "law.go:34", after := #[{ on := 3, ground := Ground.data }], guard := none }) (v := ?_) rfl (by kernel_rfl) (by kernel_rfl) (by kernel_rfl) (fun _ _ _ h => h) (Or.inl ⟨by rfl, ?_⟩) (((unhide HB83).cell r64).trans HE84.out) ?_
            rotate_left 1
            · intro w hSw
              try dsimp only at hSw
              go_simp
              first
                | done
                | with_reducible rfl
                | rw [if_neg (by omega)]
            try simp only [Act.put, List.setIfInBounds_toArray, List.set_cons_zero, List.set_cons_succ]
            refine wpAnyH_ready (rs := [14]) (by kernel_rfl) (by simp) ?_
            refine AllReadyH.cons (o := { dst := some 74, op := Op.call { callee := Callee.value (Operand.func 26), args := #[Operand.tmp 64, Operand.const (Value.int IntKind.i64 0), Operand.tmp 73], argTypes := #[3, 3, 76] }, type := 22, pos := "law.go:34", after := #[{ on := 4, ground := Ground.data }, { on := 13, ground := Ground.data }, { on := 12, ground := Ground.chain }], guard := none }) rfl (fun K hK => ?_) (AllReadyH.nil)
            go_simp
            go_at_call 26
            refine (make_st2 e84 0 _ 2 2 [(A71, c71, ts71), (A77, c77, ts77)] rfl (by decide) (blk_in (unhide HB82_83)) (fun p hp => by simp at hp; rcases hp with rfl | rfl; exact ⟨InC.own (unhide HR71_83), by simp only; omega⟩; exact ⟨InC.own (unhide HR77_83), by simp only; omega⟩) HCa83.out HK83.out (tyok_two (by rcases hel84 with q | q | q <;> subst q <;> decide) (by omega) (unhide HT71) (unhide HT77))).mono ?_
            rintro e w85 ⟨⟨v85, ts85, rfl, hO85, hT85, hC85, hG85⟩, hGm85⟩
            have HO85 := hide hO85
            have HT85 := hide hT85
            have HC85 := hide hC85
            have HG85 := hide hG85
            have HX85 : Hid (w85.cell? ⟨bl83, r64, none⟩ = some (.int .i64 e84)) := by
              have hb2 := (unhide HB83)
              exact ((World.cell?_of_block (hGm85.block bl83 hb2.lt (ne_g hbl83))).trans (hb2.cell r64)).trans HE84.out
            clear hO85 hT85 hC85 hG85 hGm85
            try dsimp only
            refine hK.out _ _ HX85.out (fun _ => ?_)
            clear hK K
            try simp only [Act.put, List.setIfInBounds_toArray, List.set_cons_zero, List.set_cons_succ]
            refine wpAnyH_take (i := 15) (oi := { dst := some 6, op := Op.assign (Operand.tmp 74), type := 22, pos := "law.go:34", after := #[{ on := 14, ground := Ground.data }, { on := 14, ground := Ground.chain }, { on := 0, ground := Ground.phase }, { on := 1, ground := Ground.phase }, { on := 2, ground := Ground.phase }, { on := 3, ground := Ground.phase }, { on := 4, ground := Ground.phase }, { on := 5, ground := Ground.phase }, { on := 6, ground := Ground.phase }, { on := 7, ground := Ground.phase }, { on := 8, ground := Ground.phase }, { on := 9, ground := Ground.phase }, { on := 10, ground := Ground.phase }, { on := 11, ground := Ground.phase }, { on := 12, ground := Ground.phase }, { on := 13, ground := Ground.phase }, { on := 14, ground := Ground.phase }], guard := none }) (v := ?_) rfl (by kernel_rfl) (by kernel_rfl) (by kernel_rfl) (fun _ _ _ h => h) (Or.inl ⟨by rfl, ?_⟩) (HX85.out) ?_
            rotate_left 1
            · intro w hSw
              try dsimp only at hSw
              go_simp
              first
                | done
                | with_reducible rfl
            try simp only [Act.put, List.setIfInBounds_toArray, List.set_cons_zero, List.set_cons_succ]
            refine wpAnyH_done (by kernel_rfl) ?_ _
            refine NoPanic.normal ?_
            go_wp2_with fail
            go_ret
            exact ⟨v85, ts85, rfl, HO85.out, HT85.out, HC85.out, HG85.out⟩
  · go_wp2_with fail
    refine ((unhide IH) _ g A n c HC1.out HN.out).mono ?_
    rintro e w86 ⟨v86, ts86, rfl, hO86, hT86, hC86, hG86⟩
    obtain ⟨A86, c86, rfl⟩ := owns_form hO86
    have HC86 := hide hC86
    have HT86 := hide hT86
    have hl86 : ts86.length ≤ 1024 := by have := hT86.2.1; omega
    have hlt86 : g < w1.heap.size := (unhide HC1).lt
    have HK86 : Hid (w.grownBy w86 (some g)) := only_trans HK1.out hG86
    have HR86 := hide hO86
    clear hO86 hT86 hC86 hG86
    go_wp2_with fail
    refine ((unhide IH) _ g A n c HC86.out HN.out).mono ?_
    rintro e w87 ⟨v87, ts87, rfl, hO87, hT87, hC87, hG87⟩
    obtain ⟨A87, c87, rfl⟩ := owns_form hO87
    have HC87 := hide hC87
    have HT87 := hide hT87
    have hl87 : ts87.length ≤ 1024 := by have := hT87.2.1; omega
    have hlt87 : g < w86.heap.size := (unhide HC86).lt
    have HK87 : Hid (w.grownBy w87 (some g)) := only_trans HK86.out hG87
    have HR86_87 := hide (owns_other (unhide HR86) hG87 (row_g (unhide HR86) hlt86))
    clear HR86
    have HR87 := hide hO87
    clear hO87 hT87 hC87 hG87
    go_wp2_with fail
    have HB88 := hide (Blk.new w87 22 #[.slice A86 ts86.length c86, .slice A87 ts87.length c87])
    have HCa88 := hide ((unhide HC87).alloc (.cells #[.slice A86 ts86.length c86, .slice A87 ts87.length c87] 22))
    have HKa88 : Hid (w.grownBy (w87.alloc (.cells #[.slice A86 ts86.length c86, .slice A87 ts87.length c87] 22)) (some g)) := only_alloc HK87.out _
    have HR86_87a := hide ((unhide HR86_87).alloc (.cells #[.slice A86 ts86.length c86, .slice A87 ts87.length c87] 22))
    have HR87a := hide ((unhide HR87).alloc (.cells #[.slice A86 ts86.length c86, .slice A87 ts87.length c87] 22))
    refine (make_st 10 0 _ 2 2 [(A86, c86, ts86), (A87, c87, ts87)] rfl (by decide) (blk_in (unhide HB88)) (fun p hp => by simp at hp; rcases hp with rfl | rfl; exact ⟨InC.own (unhide HR86_87a), by simp only; omega⟩; exact ⟨InC.own (unhide HR87a), by simp only; omega⟩) HCa88.out HKa88.out (tyok_two (by decide) (by decide) (unhide HT86) (unhide HT87))).mono ?_
    rintro e w89 ⟨v89, ts89, rfl, hO89, hT89, hC89, hG89⟩
    have HO89 := hide hO89
    have HT89 := hide hT89
    have HC89 := hide hC89
    have HG89 := hide hG89
    clear hO89 hT89 hC89 hG89
    go_wp2_with fail
    go_ret
    exact ⟨v89, ts89, rfl, HO89.out, HT89.out, HC89.out, HG89.out⟩
  · go_wp2_with fail
    refine ((unhide IH) _ g A n c HC1.out HN.out).mono ?_
    rintro e w90 ⟨v90, ts90, rfl, hO90, hT90, hC90, hG90⟩
    obtain ⟨A90, c90, rfl⟩ := owns_form hO90
    have HC90 := hide hC90
    have HT90 := hide hT90
    have hl90 : ts90.length ≤ 1024 := by have := hT90.2.1; omega
    have hlt90 : g < w1.heap.size := (unhide HC1).lt
    have HK90 : Hid (w.grownBy w90 (some g)) := only_trans HK1.out hG90
    have HR90 := hide hO90
    clear hO90 hT90 hC90 hG90
    go_wp2_with fail
    refine ((unhide IH) _ g A n c HC90.out HN.out).mono ?_
    rintro e w91 ⟨v91, ts91, rfl, hO91, hT91, hC91, hG91⟩
    obtain ⟨A91, c91, rfl⟩ := owns_form hO91
    have HC91 := hide hC91
    have HT91 := hide hT91
    have hl91 : ts91.length ≤ 1024 := by have := hT91.2.1; omega
    have hlt91 : g < w90.heap.size := (unhide HC90).lt
    have HK91 : Hid (w.grownBy w91 (some g)) := only_trans HK90.out hG91
    have HR90_91 := hide (owns_other (unhide HR90) hG91 (row_g (unhide HR90) hlt90))
    clear HR90
    have HR91 := hide hO91
    clear hO91 hT91 hC91 hG91
    go_wp2_with fail
    have HB92 := hide (Blk.new w91 22 #[.slice A90 ts90.length c90, .slice A91 ts91.length c91])
    have HCa92 := hide ((unhide HC91).alloc (.cells #[.slice A90 ts90.length c90, .slice A91 ts91.length c91] 22))
    have HKa92 : Hid (w.grownBy (w91.alloc (.cells #[.slice A90 ts90.length c90, .slice A91 ts91.length c91] 22)) (some g)) := only_alloc HK91.out _
    have HR90_91a := hide ((unhide HR90_91).alloc (.cells #[.slice A90 ts90.length c90, .slice A91 ts91.length c91] 22))
    have HR91a := hide ((unhide HR91).alloc (.cells #[.slice A90 ts90.length c90, .slice A91 ts91.length c91] 22))
    refine (make_st 10 0 _ 2 2 [(A90, c90, ts90), (A91, c91, ts91)] rfl (by decide) (blk_in (unhide HB92)) (fun p hp => by simp at hp; rcases hp with rfl | rfl; exact ⟨InC.own (unhide HR90_91a), by simp only; omega⟩; exact ⟨InC.own (unhide HR91a), by simp only; omega⟩) HCa92.out HKa92.out (tyok_two (by decide) (by decide) (unhide HT90) (unhide HT91))).mono ?_
    rintro e w93 ⟨v93, ts93, rfl, hO93, hT93, hC93, hG93⟩
    have HO93 := hide hO93
    have HT93 := hide hT93
    have HC93 := hide hC93
    have HG93 := hide hG93
    clear hO93 hT93 hC93 hG93
    go_wp2_with fail
    go_ret
    exact ⟨v93, ts93, rfl, HO93.out, HT93.out, HC93.out, HG93.out⟩
  · go_wp2_with fail
    refine ((unhide IH) _ g A n c HC1.out HN.out).mono ?_
    rintro e w94 ⟨v94, ts94, rfl, hO94, hT94, hC94, hG94⟩
    obtain ⟨A94, c94, rfl⟩ := owns_form hO94
    have HC94 := hide hC94
    have HT94 := hide hT94
    have hl94 : ts94.length ≤ 1024 := by have := hT94.2.1; omega
    have hlt94 : g < w1.heap.size := (unhide HC1).lt
    have HK94 : Hid (w.grownBy w94 (some g)) := only_trans HK1.out hG94
    have HR94 := hide hO94
    clear hO94 hT94 hC94 hG94
    go_wp2_with fail
    refine ((unhide IH) _ g A n c HC94.out HN.out).mono ?_
    rintro e w95 ⟨v95, ts95, rfl, hO95, hT95, hC95, hG95⟩
    obtain ⟨A95, c95, rfl⟩ := owns_form hO95
    have HC95 := hide hC95
    have HT95 := hide hT95
    have hl95 : ts95.length ≤ 1024 := by have := hT95.2.1; omega
    have hlt95 : g < w94.heap.size := (unhide HC94).lt
    have HK95 : Hid (w.grownBy w95 (some g)) := only_trans HK94.out hG95
    have HR94_95 := hide (owns_other (unhide HR94) hG95 (row_g (unhide HR94) hlt94))
    clear HR94
    have HR95 := hide hO95
    clear hO95 hT95 hC95 hG95
    go_wp2_with fail
    have HB96 := hide (Blk.new w95 22 #[.slice A94 ts94.length c94, .slice A95 ts95.length c95])
    have HCa96 := hide ((unhide HC95).alloc (.cells #[.slice A94 ts94.length c94, .slice A95 ts95.length c95] 22))
    have HKa96 : Hid (w.grownBy (w95.alloc (.cells #[.slice A94 ts94.length c94, .slice A95 ts95.length c95] 22)) (some g)) := only_alloc HK95.out _
    have HR94_95a := hide ((unhide HR94_95).alloc (.cells #[.slice A94 ts94.length c94, .slice A95 ts95.length c95] 22))
    have HR95a := hide ((unhide HR95).alloc (.cells #[.slice A94 ts94.length c94, .slice A95 ts95.length c95] 22))
    refine (make_st 11 0 _ 2 2 [(A94, c94, ts94), (A95, c95, ts95)] rfl (by decide) (blk_in (unhide HB96)) (fun p hp => by simp at hp; rcases hp with rfl | rfl; exact ⟨InC.own (unhide HR94_95a), by simp only; omega⟩; exact ⟨InC.own (unhide HR95a), by simp only; omega⟩) HCa96.out HKa96.out (tyok_two (by decide) (by decide) (unhide HT94) (unhide HT95))).mono ?_
    rintro e w97 ⟨v97, ts97, rfl, hO97, hT97, hC97, hG97⟩
    have HO97 := hide hO97
    have HT97 := hide hT97
    have HC97 := hide hC97
    have HG97 := hide hG97
    clear hO97 hT97 hC97 hG97
    go_wp2_with fail
    go_ret
    exact ⟨v97, ts97, rfl, HO97.out, HT97.out, HC97.out, HG97.out⟩
  · go_wp2_with fail
    refine ((unhide IH) _ g A n c HC1.out HN.out).mono ?_
    rintro e w98 ⟨v98, ts98, rfl, hO98, hT98, hC98, hG98⟩
    obtain ⟨A98, c98, rfl⟩ := owns_form hO98
    have HC98 := hide hC98
    have HT98 := hide hT98
    have hl98 : ts98.length ≤ 1024 := by have := hT98.2.1; omega
    have hlt98 : g < w1.heap.size := (unhide HC1).lt
    have HK98 : Hid (w.grownBy w98 (some g)) := only_trans HK1.out hG98
    have HR98 := hide hO98
    clear hO98 hT98 hC98 hG98
    go_wp2_with fail
    refine ((unhide IH) _ g A n c HC98.out HN.out).mono ?_
    rintro e w99 ⟨v99, ts99, rfl, hO99, hT99, hC99, hG99⟩
    obtain ⟨A99, c99, rfl⟩ := owns_form hO99
    have HC99 := hide hC99
    have HT99 := hide hT99
    have hl99 : ts99.length ≤ 1024 := by have := hT99.2.1; omega
    have hlt99 : g < w98.heap.size := (unhide HC98).lt
    have HK99 : Hid (w.grownBy w99 (some g)) := only_trans HK98.out hG99
    have HR98_99 := hide (owns_other (unhide HR98) hG99 (row_g (unhide HR98) hlt98))
    clear HR98
    have HR99 := hide hO99
    clear hO99 hT99 hC99 hG99
    go_wp2_with fail
    have HB100 := hide (Blk.new w99 22 #[.slice A98 ts98.length c98, .slice A99 ts99.length c99])
    have HCa100 := hide ((unhide HC99).alloc (.cells #[.slice A98 ts98.length c98, .slice A99 ts99.length c99] 22))
    have HKa100 : Hid (w.grownBy (w99.alloc (.cells #[.slice A98 ts98.length c98, .slice A99 ts99.length c99] 22)) (some g)) := only_alloc HK99.out _
    have HR98_99a := hide ((unhide HR98_99).alloc (.cells #[.slice A98 ts98.length c98, .slice A99 ts99.length c99] 22))
    have HR99a := hide ((unhide HR99).alloc (.cells #[.slice A98 ts98.length c98, .slice A99 ts99.length c99] 22))
    refine (make_st 11 0 _ 2 2 [(A98, c98, ts98), (A99, c99, ts99)] rfl (by decide) (blk_in (unhide HB100)) (fun p hp => by simp at hp; rcases hp with rfl | rfl; exact ⟨InC.own (unhide HR98_99a), by simp only; omega⟩; exact ⟨InC.own (unhide HR99a), by simp only; omega⟩) HCa100.out HKa100.out (tyok_two (by decide) (by decide) (unhide HT98) (unhide HT99))).mono ?_
    rintro e w101 ⟨v101, ts101, rfl, hO101, hT101, hC101, hG101⟩
    have HO101 := hide hO101
    have HT101 := hide hT101
    have HC101 := hide hC101
    have HG101 := hide hG101
    clear hO101 hT101 hC101 hG101
    go_wp2_with fail
    go_ret
    exact ⟨v101, ts101, rfl, HO101.out, HT101.out, HC101.out, HG101.out⟩
  · go_wp2_with fail
    refine ((unhide IH) _ g A n c HC1.out HN.out).mono ?_
    rintro e w102 ⟨v102, ts102, rfl, hO102, hT102, hC102, hG102⟩
    obtain ⟨A102, c102, rfl⟩ := owns_form hO102
    have HC102 := hide hC102
    have HT102 := hide hT102
    have hl102 : ts102.length ≤ 1024 := by have := hT102.2.1; omega
    have hlt102 : g < w1.heap.size := (unhide HC1).lt
    have HK102 : Hid (w.grownBy w102 (some g)) := only_trans HK1.out hG102
    have HR102 := hide hO102
    clear hO102 hT102 hC102 hG102
    go_wp2_with fail
    have HB103 := hide (Blk.new w102 22 #[.slice A102 ts102.length c102])
    have HCa103 := hide ((unhide HC102).alloc (.cells #[.slice A102 ts102.length c102] 22))
    have HKa103 : Hid (w.grownBy (w102.alloc (.cells #[.slice A102 ts102.length c102] 22)) (some g)) := only_alloc HK102.out _
    have HR102a := hide ((unhide HR102).alloc (.cells #[.slice A102 ts102.length c102] 22))
    refine (make_st 11 0 _ 1 1 [(A102, c102, ts102)] rfl (by decide) (blk_in (unhide HB103)) (fun p hp => by simp at hp; subst hp; exact ⟨InC.own (unhide HR102a), by simp only; omega⟩) HCa103.out HKa103.out (tyok_one (by decide) (by decide) (unhide HT102))).mono ?_
    rintro e w104 ⟨v104, ts104, rfl, hO104, hT104, hC104, hG104⟩
    have HO104 := hide hO104
    have HT104 := hide hT104
    have HC104 := hide hC104
    have HG104 := hide hG104
    clear hO104 hT104 hC104 hG104
    go_wp2_with fail
    go_ret
    exact ⟨v104, ts104, rfl, HO104.out, HT104.out, HC104.out, HG104.out⟩

end Go.Proofs.YtcnanbmbdajcaaaDoor
