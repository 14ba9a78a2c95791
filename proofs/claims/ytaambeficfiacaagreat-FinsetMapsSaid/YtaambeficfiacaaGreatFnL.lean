/- FinsetComputes returns true: the functions on sets answer as the reference does. Conditions: strings of at most 2^48 bytes. -/
-- by tools/gen_fnl.py
import Derived.Test.YtaambeficfiacaaGreatFnZ
namespace Go.Proofs.YtaambeficfiacaaGreat
open Go Go.RowKit Go.Shelf VM

set_option linter.unusedSimpArgs false in
set_option maxRecDepth 100000 in
set_option maxHeartbeats 12800000 in
theorem binary_any (x y : ByteArray) (hx : x.size ≤ 281474976710656) (hy : y.size ≤ 281474976710656) (w : World) :
    Calls Tryz.prog 13 #[.string x, .string y] w fun e w' => e = .returned (.bool true) ∧ Below w.heap.size w w' := by
  have c0 := Lib.hid (fun w => pUnion_any x y hx hy w)
  have c1 := Lib.hid (fun w => rUnion_any x y hx hy w)
  have c2 := Lib.hid (fun w => pInter_any x y hx hy w)
  have c3 := Lib.hid (fun w => rInter_any x y hx hy w)
  have c4 := Lib.hid (fun w => pDiff_any x y hx hy w)
  have c5 := Lib.hid (fun w => rDiff_any x y hx hy w)
  have c6 := Lib.hid (fun w => pMember_any x y hx hy w)
  have c7 := Lib.hid (fun w => rMember_any x y hx hy w)
  unfold RetV at c0 c1 c2 c3 c4 c5
  unfold RetB at c6 c7
  generalize combM (fun p q => p || q) x y = ra at *
  have qa := tl_self ra.1
  obtain ⟨sa, ea⟩ := ra
  generalize combM (fun p q => p && q) x y = rb at *
  have qb := tl_self rb.1
  obtain ⟨sb, eb⟩ := rb
  generalize combM (fun p q => p && !q) x y = rc at *
  have qc := tl_self rc.1
  obtain ⟨sc, ec⟩ := rc
  generalize memM x y = rd at *
  have qd : (rd.1 == rd.1) = true := by simp
  obtain ⟨sd, ed⟩ := rd
  have HB0 : Hid (Below w.heap.size w w) := hide (Below.refl _ _)
  go_enter Tryz.func13, Tryz.ntmps13
  go_wp2_with fail
  refine (c0.out _).mono ?_
  rintro e w1 ⟨rfl, hb1⟩
  have HB1 := hide ((unhide HB0).trans (hb1.mono (unhide HB0).size))
  clear hb1 HB0
  go_wp2_with fail
  refine (c1.out _).mono ?_
  rintro e w2 ⟨rfl, hb2⟩
  have HB2 := hide ((unhide HB1).trans (hb2.mono (unhide HB1).size))
  clear hb2 HB1
  go_wp2_with fail
  refine (c2.out _).mono ?_
  rintro e w3 ⟨rfl, hb3⟩
  have HB3 := hide ((unhide HB2).trans (hb3.mono (unhide HB2).size))
  clear hb3 HB2
  go_wp2_with fail
  refine (c3.out _).mono ?_
  rintro e w4 ⟨rfl, hb4⟩
  have HB4 := hide ((unhide HB3).trans (hb4.mono (unhide HB3).size))
  clear hb4 HB3
  go_wp2_with fail
  refine (c4.out _).mono ?_
  rintro e w5 ⟨rfl, hb5⟩
  have HB5 := hide ((unhide HB4).trans (hb5.mono (unhide HB4).size))
  clear hb5 HB4
  go_wp2_with fail
  refine (c5.out _).mono ?_
  rintro e w6 ⟨rfl, hb6⟩
  have HB6 := hide ((unhide HB5).trans (hb6.mono (unhide HB5).size))
  clear hb6 HB5
  go_wp2_with fail
  refine (c6.out _).mono ?_
  rintro e w7 ⟨rfl, hb7⟩
  have HB7 := hide ((unhide HB6).trans (hb7.mono (unhide HB6).size))
  clear hb7 HB6
  go_wp2_with fail
  refine (c7.out _).mono ?_
  rintro e w8 ⟨rfl, hb8⟩
  have HB8 := hide ((unhide HB7).trans (hb8.mono (unhide HB7).size))
  clear hb8 HB7
  go_wp2_with fail
  go_ret
  exact ⟨rfl, unhide HB8⟩
set_option linter.unusedSimpArgs false in
set_option maxRecDepth 100000 in
set_option maxHeartbeats 12800000 in
theorem unary_any (x : ByteArray) (hx : x.size ≤ 281474976710656) (w : World) :
    Calls Tryz.prog 15 #[.string x] w fun e w' => e = .returned (.bool true) ∧ Below w.heap.size w w' := by
  have c0 := Lib.hid (fun w => pBigUnion_any x hx w)
  have c1 := Lib.hid (fun w => rBigUnion_any x hx w)
  have c2 := Lib.hid (fun w => pBigInter_any x hx w)
  have c3 := Lib.hid (fun w => rBigInter_any x hx w)
  have c4 := Lib.hid (fun w => pSubsets_any x hx w)
  have c5 := Lib.hid (fun w => rSubsets_any x hx w)
  have c6 := Lib.hid (fun w => pKeys_any x hx w)
  have c7 := Lib.hid (fun w => rKeys_any x hx w)
  unfold RetV at c0 c1 c2 c3 c4 c5 c6 c7
  generalize bigU x = ra at *
  have qa := tl_self ra.1
  obtain ⟨sa, ea⟩ := ra
  generalize bigI x = rb at *
  have qb := tl_self rb.1
  obtain ⟨sb, eb⟩ := rb
  generalize subsetM x = rc at *
  have qc := tl_self rc.1
  obtain ⟨sc, ec⟩ := rc
  generalize keysM x = rd at *
  have qd := tl_self rd.1
  obtain ⟨sd, ed⟩ := rd
  have HB0 : Hid (Below w.heap.size w w) := hide (Below.refl _ _)
  go_enter Tryz.func15, Tryz.ntmps15
  go_wp2_with fail
  refine (c0.out _).mono ?_
  rintro e w1 ⟨rfl, hb1⟩
  have HB1 := hide ((unhide HB0).trans (hb1.mono (unhide HB0).size))
  clear hb1 HB0
  go_wp2_with fail
  refine (c1.out _).mono ?_
  rintro e w2 ⟨rfl, hb2⟩
  have HB2 := hide ((unhide HB1).trans (hb2.mono (unhide HB1).size))
  clear hb2 HB1
  go_wp2_with fail
  refine (c2.out _).mono ?_
  rintro e w3 ⟨rfl, hb3⟩
  have HB3 := hide ((unhide HB2).trans (hb3.mono (unhide HB2).size))
  clear hb3 HB2
  go_wp2_with fail
  refine (c3.out _).mono ?_
  rintro e w4 ⟨rfl, hb4⟩
  have HB4 := hide ((unhide HB3).trans (hb4.mono (unhide HB3).size))
  clear hb4 HB3
  go_wp2_with fail
  refine (c4.out _).mono ?_
  rintro e w5 ⟨rfl, hb5⟩
  have HB5 := hide ((unhide HB4).trans (hb5.mono (unhide HB4).size))
  clear hb5 HB4
  go_wp2_with fail
  refine (c5.out _).mono ?_
  rintro e w6 ⟨rfl, hb6⟩
  have HB6 := hide ((unhide HB5).trans (hb6.mono (unhide HB5).size))
  clear hb6 HB5
  go_wp2_with fail
  refine (c6.out _).mono ?_
  rintro e w7 ⟨rfl, hb7⟩
  have HB7 := hide ((unhide HB6).trans (hb7.mono (unhide HB6).size))
  clear hb7 HB6
  go_wp2_with fail
  refine (c7.out _).mono ?_
  rintro e w8 ⟨rfl, hb8⟩
  have HB8 := hide ((unhide HB7).trans (hb8.mono (unhide HB7).size))
  clear hb8 HB7
  go_wp2_with fail
  go_ret
  exact ⟨rfl, unhide HB8⟩
/-- what sets leaves -/
def SetsPost (w : World) (g : Nat) (A : Option Addr) (n c : Nat) (e : Ending) (w' : World) : Prop :=
  ∃ s : ByteArray, e = .returned (.string s) ∧ s.size ≤ 131072 ∧ CSt w' g A n c ∧ w.grownBy w' (some g)
set_option linter.unusedSimpArgs false in
set_option maxRecDepth 100000 in
set_option maxHeartbeats 12800000 in
theorem sets_st (w : World) (g : Nat) (A : Option Addr) (n c : Nat) (hC : CSt w g A n c) (hn : n ≤ maxLen) :
    Calls Tryz.prog 16 #[.pointer (some ⟨g, 0, none⟩)] w (SetsPost w g A n c) := by
  have HC := hide hC
  have HN := Lib.hid hn
  have hgl := hC.lt
  obtain ⟨i0, hi0, hiz0, hiz1, hiz2⟩ := info_parts val_info
  clear hC hn
  go_enter Tryz.func16, Tryz.ntmps16
  go_wp2_with fail
  refine (next_st 4 4 rfl (by decide) (by decide) (unhide HC) HN.out).mono ?_
  rintro e w1 ⟨R, hR, rfl, hC1, hG1⟩
  have HC1 := hide hC1
  have HG1 := hide hG1
  clear hC1 hG1 HC
  go_wp2_with fail
  go_loopw [3, 4] (fun lv nv wr => ∃ (r L : Nat) (l : List ByteArray), nv = .int .i64 r ∧ r + L = R ∧ Hid (L = l.length) ∧ Hid (∀ s ∈ l, s.size ≤ 131072) ∧ Hid (wr.ownsRow w.heap.size 22 1 lv L (l.map Value.string)) ∧ Hid (CSt wr g A n c) ∧ Hid (w.grownBy wr (some g))) (fun _ nv _ => (intOf nv).toNat)
  case atStart => exact ⟨R, 0, [], rfl, by omega, rfl, (fun s h => by cases h), World.ownsRow_nil _ _ _ _, unhide HC1, unhide HG1⟩
  case round =>
    obtain ⟨r, L, l, rfl, hrL, hL, hV, hO, hC, hG⟩ := hrel
    obtain ⟨A3, c3, rfl⟩ := owns_form hO.out
    by_cases hr0 : 0 < r
    · go_wp2_with fail
      refine (ints_st wr g A n c hC.out HN.out).mono ?_
      rintro e w3 ⟨l3, rfl, hs3, -, hC2, hG2⟩
      have HS3 : Hid ((setM l3).size ≤ 131072) := Lib.hid (setM_size l3)
      have HC3 := hide hC2
      have HO3 := hide (owns_other hO.out hG2 (row_g hO.out hgl))
      have HG3 := hide (only_trans hG.out hG2)
      clear hC2 hG2 hO hC hG hs3
      generalize setM l3 = s at *
      have HO4 := hide ((unhide HO3).alloc (.cells #[.string s] 22))
      have hsz := (unhide HG3).size
      go_wp2_with (at_builtin; refine wpList_app _ rfl _ _ 33 rfl w.heap.size 22 i0 _ 1 16 Tryz.underlying33 hi0 hiz0 hiz1 hiz2 rfl (by decide) _ L (l.map Value.string) rfl (unhide HO4) (some ⟨w3.heap.size, 0, none⟩) 1 1 [.string s] rfl rfl (new_in w3 22 #[.string s]) (one_str s) (by unfold maxLen; omega) (by omega) (by simp; omega) ?_; intro v5 w5 hown5 hgrow5 _)
      have hall := grow_all (unhide HC3) (unhide HG3) hgl s (unhide HO3) hgrow5
      have HC5 := hide hall.1
      have HG5 := hide hall.2
      have HO5 : Hid (w5.ownsRow w.heap.size 22 1 v5 (L + 1) ((l ++ [s]).map Value.string)) := hide (by rw [List.map_append]; exact hown5)
      have HV5 : Hid (∀ x ∈ l ++ [s], x.size ≤ 131072) := Lib.hid (fun x hx => by
        rcases List.mem_append.1 hx with hx | hx
        · exact hV.out x hx
        · rw [List.mem_singleton.1 hx]; exact HS3.out)
      clear hall hown5 hgrow5
      obtain ⟨q, rfl⟩ : ∃ q, r = q + 1 := ⟨r - 1, by omega⟩
      have hw2 : ((q : Int) + 1 - 1) = q := by omega
      go_wp2_with fail
      go_roundw
      case rel => exact ⟨q, L + 1, l ++ [s], by go_num, by omega, by rw [List.length_append, ← hL.out]; rfl, HV5.out, unhide HO5, unhide HC5, unhide HG5⟩
      case measure => simp [intOf]
    · have hl4 : L ≤ 4 := by omega
      have HS := hide (rset_any l A3 L c3 wr hL.out (by omega) (fun s hs => by have := hV.out s hs; omega) (InC.own hO.out))
      change Hid (Calls _ _ _ _ fun e w' => e = .returned (.string (setM l)) ∧ _) at HS
      have HSS := Lib.hid (setM_size l)
      clear hO
      generalize setM l = sl at *
      generalize wr = w4 at *
      go_wp2_with fail
      refine (unhide HS).mono ?_
      rintro e w5 ⟨rfl, hb5⟩
      have HC5 := hide (hC.out.below hb5)
      have HG5 := hide (only_trans hG.out (only_below hb5 (some g)))
      clear hb5 hC hG
      go_wp2_with fail
      go_ret
      exact ⟨sl, rfl, HSS.out, unhide HC5, unhide HG5⟩
set_option linter.unusedSimpArgs false in
set_option maxRecDepth 100000 in
set_option maxHeartbeats 12800000 in
theorem finsetComputes_any (u v : ByteArray) (hu : u.size ≤ 281474976710656) (hv : v.size ≤ 281474976710656) (a2 : Option Addr) (n2 c2 : Nat) (h2 : n2 ≤ maxLen) (w : World) (hI2 : InInts w a2 n2) :
    Calls Tryz.prog 3 #[.string u, .string v, .slice a2 n2 c2] w fun e w' => e = .returned (.bool true) ∧ Below w.heap.size w w' := by
  have HC0 := hide (CSt.start (c := c2) hI2)
  have HB0 : Hid (Below w.heap.size w (w.alloc (.cells #[.slice a2 n2 c2, .int .i64 0] 56))) := hide ((Below.refl _ _).alloc (Nat.le_refl _) _)
  have HN0 := Lib.hid h2
  have HV2 := hide (value_st 2 (by decide) (by decide))
  have HV3 := hide (value_st 3 (by decide) (by decide))
  have HU := Lib.hid hu
  have HVV := Lib.hid hv
  have HBI := Lib.hid (fun x y hx hy w => binary_any x y hx hy w)
  have HUN := Lib.hid (fun x hx w => unary_any x hx w)
  clear hI2 h2 hu hv
  go_enter Tryz.func3, Tryz.ntmps3
  go_wp2_with fail
  refine (new_cho w a2 n2 c2).mono ?_
  rintro e w1 ⟨rfl, rfl⟩
  generalize w.alloc (.cells #[.slice a2 n2 c2, .int .i64 0] 56) = w1 at *
  obtain ⟨g0, hg0⟩ : ∃ g0, g0 = w.heap.size := ⟨_, rfl⟩
  rw [← hg0] at HC0 ⊢
  have hg0l : w.heap.size ≤ g0 := Nat.le_of_eq hg0.symm
  have HW : Hid (g0 = w.heap.size) := Lib.hid hg0
  clear hg0
  go_wp2_with fail
  refine (ints_st w1 g0 a2 n2 c2 (unhide HC0) HN0.out).mono ?_
  rintro e w2 ⟨la, rfl, -, -, hC2, hG2⟩
  have HB1 := hide (below_grown (unhide HB0) hG2 hg0l (Nat.le_refl _))
  have HC1 := hide hC2
  clear hC2 hG2 HC0 HB0
  have HSa := Lib.hid (setM_size la)
  generalize setM la = sa at *
  go_wp2_with fail
  refine (ints_st w2 g0 a2 n2 c2 (unhide HC1) HN0.out).mono ?_
  rintro e w3 ⟨lb, rfl, -, -, hC3, hG3⟩
  have HB2 := hide (below_grown (unhide HB1) hG3 hg0l (Nat.le_refl _))
  have HC2 := hide hC3
  clear hC3 hG3 HC1 HB1
  have HSb := Lib.hid (setM_size lb)
  generalize setM lb = sb at *
  go_wp2_with fail
  refine (fawake_any _).mono ?_
  rintro e w4 ⟨rfl, hb4⟩
  have HB3 := hide ((unhide HB2).trans (hb4.mono (unhide HB2).size))
  have HC3 := hide ((unhide HC2).below hb4)
  clear hb4 HC2 HB2
  go_wp2_with fail
  refine (HBI.out u v HU.out HVV.out _).mono ?_
  rintro e w5 ⟨rfl, hb5⟩
  have HB4 := hide ((unhide HB3).trans (hb5.mono (unhide HB3).size))
  have HC4 := hide ((unhide HC3).below hb5)
  clear hb5 HC3 HB3
  go_wp2_with fail
  refine (HBI.out sa sb (by have := HSa.out; omega) (by have := HSb.out; omega) _).mono ?_
  rintro e w6 ⟨rfl, hb6⟩
  have HB5 := hide ((unhide HB4).trans (hb6.mono (unhide HB4).size))
  have HC5 := hide ((unhide HC4).below hb6)
  clear hb6 HC4 HB4
  go_wp2_with fail
  refine (HBI.out sa u (by have := HSa.out; omega) HU.out _).mono ?_
  rintro e w7 ⟨rfl, hb7⟩
  have HB6 := hide ((unhide HB5).trans (hb7.mono (unhide HB5).size))
  have HC6 := hide ((unhide HC5).below hb7)
  clear hb7 HC5 HB5
  go_wp2_with fail
  refine ((unhide HV2) 2 rfl _ g0 a2 n2 c2 (unhide HC6) HN0.out).mono ?_
  rintro e w8 ⟨sc, rfl, hvc, hC8, hG8⟩
  have HB7 := hide (below_grown (unhide HB6) hG8 hg0l (Nat.le_refl _))
  have HC7 := hide hC8
  clear hC8 hG8 HC6 HB6
  have HSc : Hid (sc.size ≤ 131072) := Lib.hid (by have := hvc.2; simp at this; omega)
  clear hvc
  go_wp2_with fail
  refine (HBI.out sc sb (by have := HSc.out; omega) (by have := HSb.out; omega) _).mono ?_
  rintro e w9 ⟨rfl, hb9⟩
  have HB8 := hide ((unhide HB7).trans (hb9.mono (unhide HB7).size))
  have HC8 := hide ((unhide HC7).below hb9)
  clear hb9 HC7 HB7
  go_wp2_with fail
  refine (HUN.out u HU.out _).mono ?_
  rintro e w10 ⟨rfl, hb10⟩
  have HB9 := hide ((unhide HB8).trans (hb10.mono (unhide HB8).size))
  have HC9 := hide ((unhide HC8).below hb10)
  clear hb10 HC8 HB8
  go_wp2_with fail
  refine (HUN.out sa (by have := HSa.out; omega) _).mono ?_
  rintro e w11 ⟨rfl, hb11⟩
  have HB10 := hide ((unhide HB9).trans (hb11.mono (unhide HB9).size))
  have HC10 := hide ((unhide HC9).below hb11)
  clear hb11 HC9 HB9
  go_wp2_with fail
  refine (sets_st w11 g0 a2 n2 c2 (unhide HC10) HN0.out).mono ?_
  rintro e w12 ⟨sd, rfl, hsd, hC12, hG12⟩
  have HB11 := hide (below_grown (unhide HB10) hG12 hg0l (Nat.le_refl _))
  have HC11 := hide hC12
  clear hC12 hG12 HC10 HB10
  have HSd := Lib.hid hsd
  clear hsd
  go_wp2_with fail
  refine (HUN.out sd (by have := HSd.out; omega) _).mono ?_
  rintro e w13 ⟨rfl, hb13⟩
  have HB12 := hide ((unhide HB11).trans (hb13.mono (unhide HB11).size))
  have HC12 := hide ((unhide HC11).below hb13)
  clear hb13 HC11 HB11
  go_wp2_with fail
  refine ((unhide HV3) 3 rfl _ g0 a2 n2 c2 (unhide HC12) HN0.out).mono ?_
  rintro e w14 ⟨sf, rfl, hvf, hC14, hG14⟩
  have HB13 := hide (below_grown (unhide HB12) hG14 hg0l (Nat.le_refl _))
  have HC13 := hide hC14
  clear hC14 hG14 HC12 HB12
  have HSf : Hid (sf.size ≤ 131072) := Lib.hid (by have := hvf.2; simp at this; omega)
  clear hvf
  go_wp2_with fail
  refine (HUN.out sf (by have := HSf.out; omega) _).mono ?_
  rintro e w15 ⟨rfl, hb15⟩
  have HB14 := hide ((unhide HB13).trans (hb15.mono (unhide HB13).size))
  have HC14 := hide ((unhide HC13).below hb15)
  clear hb15 HC13 HB13
  go_wp2_with fail
  go_ret
  exact ⟨rfl, unhide HB14⟩

end Go.Proofs.YtaambeficfiacaaGreat
