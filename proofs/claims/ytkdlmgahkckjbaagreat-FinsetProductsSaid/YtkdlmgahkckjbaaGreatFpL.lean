/- FinsetProducts returns true: Product and Range of both sides agree. Conditions: the strings are at most 2^48 bytes, the slice takes at most 2^47 bytes. -/
import Derived.Test.YtkdlmgahkckjbaaGreatVgC
import Derived.Test.YtkdlmgahkckjbaaGreatFnO
import Derived.Test.YtkdlmgahkckjbaaGreatFpA
import Derived.Test.YtkdlmgahkckjbaaGreatFpG
import Derived.Test.YtkdlmgahkckjbaaGreatFpH
namespace Go.Proofs.YtkdlmgahkckjbaaGreat
open Go.RowKit Go.Shelf VM

theorem tmod_in (z : Int) (m : Nat) (hm : 0 < m) : -(m : Int) < z.tmod m ∧ z.tmod m < m := by
  have h1 := Int.lt_tmod_of_pos z (b := (m : Int)) (by omega)
  have h2 := Int.tmod_lt_of_pos z (b := (m : Int)) (by omega)
  exact ⟨h1, h2⟩
set_option linter.unusedSimpArgs false in
set_option maxRecDepth 100000 in
set_option maxHeartbeats 12800000 in
theorem finsetProducts_any (ls : List ByteArray) (A : Option Addr) (n c : Nat) (a b : Int) (a3 : Option Addr) (n3 c3 : Nat) (hn : n = ls.length) (hn1 : n ≤ 8796093022207) (hs : ∀ s ∈ ls, s.size ≤ 281474976710656) (ha : -9223372036854775808 ≤ a ∧ a ≤ 9223372036854775807) (hb : -9223372036854775808 ≤ b ∧ b ≤ 9223372036854775807) (h3 : n3 ≤ maxLen) (w : World) (hr : InC w A (ls.map Value.string)) (hI3 : InInts w a3 n3) :
    Calls Tryz.prog 3 #[.slice A n c, .int .i64 a, .int .i64 b, .slice a3 n3 c3] w fun e w' => e = .returned (.bool true) ∧ Below w.heap.size w w' := by
  have HC0 := hide (CSt.start (c := c3) hI3)
  have HB0 : Hid (Below w.heap.size w (w.alloc (.cells #[.slice a3 n3 c3, .int .i64 0] 38))) := hide ((Below.refl _ _).alloc (Nat.le_refl _) _)
  have HN0 := Lib.hid h3
  have HR := hide hr
  have HPL := Lib.hid (fun w hr => pProduct_any ls A n c w hn (by omega) hs hr)
  have HRL := Lib.hid (fun w hr => rProduct_any ls A n c w hn hn1 hs hr)
  have HPR := Lib.hid (fun w => pRange_any a b ha hb w)
  have HRR := Lib.hid (fun w => rRange_any a b ha hb w)
  obtain ⟨d, hd⟩ : ∃ d, d = a.tmod 100 := ⟨_, rfl⟩
  obtain ⟨d2, hd2⟩ : ∃ d, d = b.tmod 20 := ⟨_, rfl⟩
  have hdb := tmod_in a 100 (by decide)
  have hdb2 := tmod_in b 20 (by decide)
  change -(100 : Int) < a.tmod 100 ∧ a.tmod 100 < 100 at hdb
  change -(20 : Int) < b.tmod 20 ∧ b.tmod 20 < 20 at hdb2
  rw [← hd] at hdb
  rw [← hd2] at hdb2
  have gd1 : IntKind.i64.wrap d = d := IntWalk.i64_in _ (by omega)
  have gd2 : IntKind.i64.wrap d2 = d2 := IntWalk.i64_in _ (by omega)
  have gd3 : IntKind.i64.wrap (d + d2) = d + d2 := IntWalk.i64_in _ (by omega)
  have HPR2 := Lib.hid (fun w => pRange_any d (d + d2) (by omega) (by omega) w)
  have HRR2 := Lib.hid (fun w => rRange_any d (d + d2) (by omega) (by omega) w)
  have gm1 : a.tmod 100 = d := hd.symm
  have gm2 : b.tmod 20 = d2 := hd2.symm
  obtain ⟨i0, hi0, hiz0, hiz1, hiz2⟩ := info_parts val_info
  generalize prodM ls = p1 at *
  generalize rangeM a b = r1 at *
  generalize rangeM d (d + d2) = r2 at *
  clear hI3 h3 hn hs hr hdb hdb2 hd hd2
  go_enter Tryz.func3, Tryz.ntmps3
  go_wp2_with fail
  refine (new_cho w a3 n3 c3).mono ?_
  rintro e w1 ⟨rfl, rfl⟩
  generalize w.alloc (.cells #[.slice a3 n3 c3, .int .i64 0] 38) = w1 at *
  obtain ⟨g, hg0⟩ : ∃ g0, g0 = w.heap.size := ⟨_, rfl⟩
  rw [← hg0] at HC0 ⊢
  have HW : Hid (g = w.heap.size) := Lib.hid hg0
  clear hg0
  have hgl := (unhide HC0).lt
  go_wp2_with fail
  refine (next_st 5 5 rfl (by decide) (by decide) (unhide HC0) HN0.out).mono ?_
  rintro e w2 ⟨R, hR, rfl, hC1, hG1⟩
  have HC1 := hide hC1
  have HG1 := hide hG1
  clear hC1 hG1 HC0
  go_wp2_with fail
  go_loopw [10, 11] (fun lv nv wr => ∃ (r L : Nat) (l : List ByteArray), nv = .int .i64 r ∧ r + L = R ∧ Hid (L = l.length) ∧ Hid (∀ s ∈ l, s.size ≤ 131072) ∧ Hid (wr.ownsRow w1.heap.size 27 1 lv L (l.map Value.string)) ∧ Hid (CSt wr g a3 n3 c3) ∧ Hid (w1.grownBy wr (some g))) (fun _ nv _ => (intOf nv).toNat)
  case atStart => exact ⟨R, 0, [], rfl, by omega, rfl, (fun s h => by cases h), World.ownsRow_nil _ _ _ _, unhide HC1, unhide HG1⟩
  case round =>
    obtain ⟨r, L, l, rfl, hrL, hL, hV, hO, hC, hG⟩ := hrel
    obtain ⟨A3, c3, rfl⟩ := owns_form hO.out
    by_cases hr0 : 0 < r
    · go_wp2_with fail
      refine (ints_st wr g a3 n3 _ hC.out HN0.out).mono ?_
      rintro e w3 ⟨l3, rfl, hs3, -, hC2, hG2⟩
      have HS3 : Hid ((setM l3).size ≤ 131072) := Lib.hid (setM_size l3)
      have HC3 := hide hC2
      have HO3 := hide (owns_other hO.out hG2 (row_g hO.out hgl))
      have HG3 := hide (only_trans hG.out hG2)
      clear hC2 hG2 hO hC hG hs3
      generalize setM l3 = s at *
      have HO4 := hide ((unhide HO3).alloc (.cells #[.string s] 27))
      have hsz := (unhide HG3).size
      go_wp2_with (at_builtin; refine wpList_app _ rfl _ _ 22 rfl w1.heap.size 27 i0 _ 1 16 Tryz.underlying22 hi0 hiz0 hiz1 hiz2 rfl (by decide) _ L (l.map Value.string) rfl (unhide HO4) (some ⟨w3.heap.size, 0, none⟩) 1 1 [.string s] rfl rfl (new_in w3 27 #[.string s]) (one_str s) (by unfold maxLen; omega) (by omega) (by simp; omega) ?_; intro v5 w5 hown5 hgrow5 _)
      have hall := grow_all (unhide HC3) (unhide HG3) hgl s (unhide HO3) hgrow5
      have HC5 := hide hall.1
      have HG5 := hide hall.2
      have HO5 : Hid (w5.ownsRow w1.heap.size 27 1 v5 (L + 1) ((l ++ [s]).map Value.string)) := hide (by rw [List.map_append]; exact hown5)
      have HV5 : Hid (∀ x ∈ l ++ [s], x.size ≤ 131072) := Lib.hid (fun x hx => by
        rcases List.mem_append.1 hx with hx | hx
        · exact hV.out x hx
        · rw [List.mem_singleton.1 hx]; exact HS3.out)
      clear hall hown5 hgrow5
      obtain ⟨q, rfl⟩ : ∃ q, r = q + 1 := ⟨r - 1, by omega⟩
      have hw2 : ((q : Int) + 1 - 1) = q := by omega
      go_wp2_with fail
      go_roundw
      case rel => exact ⟨q, L + 1, l ++ [s], by go_num, by omega, by rw [List.length_append, ← hL.out]; rfl, HV5.out, unhide HO5, unhide HC5, unhide HG5⟩
      case measure => simp [intOf]
    · have HPM := Lib.hid (fun w hr => pProduct_any l A3 L c3 w hL.out (by omega) (fun s hs => by have := hV.out s hs; omega) hr)
      have HRM := Lib.hid (fun w hr => rProduct_any l A3 L c3 w hL.out (by omega) (fun s hs => by have := hV.out s hs; omega) hr)
      have HI4 := hide (InC.own hO.out)
      have HB4 : Hid (Below w.heap.size w wr) := hide (below_grown (unhide HB0) hG.out (Nat.le_of_eq HW.out.symm) (Nat.le_refl _))
      generalize prodM l = p2 at *
      obtain ⟨p1a, p1b⟩ := p1
      obtain ⟨p2a, p2b⟩ := p2
      obtain ⟨r1a, r1b⟩ := r1
      obtain ⟨r2a, r2b⟩ := r2
      have hr00 : r = 0 := by omega
      subst hr00
      clear hO hC hG hV hL hrL hr0 HC1 HG1
      generalize wr = w4 at *
      clear wr
      go_wp2_with fail
      refine (HPL.out _ ((unhide HR).below (unhide HB4))).mono ?_
      rintro e w5 ⟨rfl, hb5⟩
      have HB5 := hide ((unhide HB4).trans (hb5.mono (unhide HB4).size))
      have HI5 := hide ((unhide HI4).below hb5)
      clear hb5
      go_wp2_with fail
      refine (HRL.out _ ((unhide HR).below (unhide HB5))).mono ?_
      rintro e w6 ⟨rfl, hb6⟩
      have HB6 := hide ((unhide HB5).trans (hb6.mono (unhide HB5).size))
      have HI6 := hide ((unhide HI5).below hb6)
      clear hb6
      go_wp2_with fail
      refine (HPM.out _ (unhide HI6)).mono ?_
      rintro e w7 ⟨rfl, hb7⟩
      have HB7 := hide ((unhide HB6).trans (hb7.mono (unhide HB6).size))
      have HI7 := hide ((unhide HI6).below hb7)
      clear hb7
      go_wp2_with fail
      refine (HRM.out _ (unhide HI7)).mono ?_
      rintro e w8 ⟨rfl, hb8⟩
      have HB8 := hide ((unhide HB7).trans (hb8.mono (unhide HB7).size))
      have HI8 := hide ((unhide HI7).below hb8)
      clear hb8
      go_wp2_with fail
      refine (HPR.out _).mono ?_
      rintro e w9 ⟨rfl, hb9⟩
      have HB9 := hide ((unhide HB8).trans (hb9.mono (unhide HB8).size))
      have HI9 := hide ((unhide HI8).below hb9)
      clear hb9
      go_wp2_with fail
      refine (HRR.out _).mono ?_
      rintro e w10 ⟨rfl, hb10⟩
      have HB10 := hide ((unhide HB9).trans (hb10.mono (unhide HB9).size))
      have HI10 := hide ((unhide HI9).below hb10)
      clear hb10
      go_wp2_with fail
      refine (HPR2.out _).mono ?_
      rintro e w11 ⟨rfl, hb11⟩
      have HB11 := hide ((unhide HB10).trans (hb11.mono (unhide HB10).size))
      have HI11 := hide ((unhide HI10).below hb11)
      clear hb11
      go_wp2_with fail
      refine (HRR2.out _).mono ?_
      rintro e w12 ⟨rfl, hb12⟩
      have HB12 := hide ((unhide HB11).trans (hb12.mono (unhide HB11).size))
      have HI12 := hide ((unhide HI11).below hb12)
      clear hb12
      go_wp2_with fail
      refine (fawake_any _).mono ?_
      rintro e w20 ⟨rfl, hb20⟩
      have HB20 := hide ((unhide HB12).trans (hb20.mono (unhide HB12).size))
      have HI20 := hide ((unhide HI12).below hb20)
      clear hb20
      go_wp2_with fail
      go_ret
      exact ⟨rfl, unhide HB20⟩

end Go.Proofs.YtkdlmgahkckjbaaGreat
