/- PatternMatchesBuilt. Condition: a slice of numbers has a length. -/
-- by tools/gen_pum.py
import Derived.Test.YtdifpemohdnolaaGreatPuP
import Derived.Test.YtdifpemohdnolaaGreatPuX
namespace Go.Proofs.YtdifpemohdnolaaGreat
open Go.RowKit VM

theorem PRow.apart2 {b1 m z : Nat} {e : TypeId} {w w' : World} {g : Nat} {v u : Value} {xs : List Value} {P : F} (h : PRow w g v P) (hv : w.ownsRow b1 e z u m xs) (hne : 27 ≠ e) (hg : w.grownBy w' u.ownBlock) : PRow w' g v P :=
  ⟨h.form, owns_other h.own hg (own_own_ne h.own hv hne)⟩
theorem build_valid {p : List Cd} {l : List ByteArray} {v : ByteArray} (h : buildP p l = some v) : valB 32 v = true := by
  unfold buildP at h
  split at h
  · split at h
    · split at h
      · rename_i q; cases h; exact q
      · cases h
    · cases h
  · cases h
theorem val_small {l : List ByteArray} (h : ∀ s ∈ l, ValOK 2 s) : totB l ≤ l.length * 40 ∧ ∀ s ∈ l, s.size ≤ 281474976710656 := by
  have h1 : ∀ s ∈ l, s.size ≤ 40 := fun s hs => by
    have := (h s hs).2
    simp at this
    omega
  exact ⟨totB_bound h1, fun s hs => by have := h1 s hs; omega⟩
theorem vars_le (P : F) : P.vars ≤ P.fl.length := by rw [← F.vars_fl]; exact List.length_filter_le _ _
/-- the values that the law draws for a pattern -/
structure VL (w wP wr : World) (g : Nat) (A : Option Addr) (n c : Nat) (pv' lv : Value) (P : F) (M : Nat) (l : List ByteArray) : Prop where
  len : M = l.length
  val : ∀ s ∈ l, ValOK 2 s
  own : wr.ownsRow wP.heap.size 23 1 lv M (l.map Value.string)
  cs : CSt wr g A n c
  row : PRow wr g pv' P
  below : Below w.heap.size w wr
  size : wP.heap.size ≤ wr.heap.size
theorem VL.grown {w wP wr w' : World} {g : Nat} {A : Option Addr} {n c : Nat} {pv' lv : Value} {P : F} {M : Nat} {l : List ByteArray} (h : VL w wP wr g A n c pv' lv P M l) (hC : CSt w' g A n c) (hG : wr.grownBy w' (some g)) (hgl : w.heap.size ≤ g) (hgP : g < wP.heap.size) : VL w wP w' g A n c pv' lv P M l :=
  ⟨h.len, h.val, owns_other h.own hG (row_g h.own hgP), hC, h.row.grown hG, below_grown h.below hG hgl (Nat.le_refl _), Nat.le_trans h.size hG.size⟩
theorem VL.to {w wP wr w' : World} {g : Nat} {A : Option Addr} {n c : Nat} {pv' lv : Value} {P : F} {M : Nat} {l : List ByteArray} (h : VL w wP wr g A n c pv' lv P M l) (hb : Below wr.heap.size wr w') : VL w wP w' g A n c pv' lv P M l :=
  ⟨h.len, h.val, owns_below h.own hb, h.cs.below hb, h.row.below hb, h.below.trans (hb.mono h.below.size), Nat.le_trans h.size hb.size⟩
theorem VL.snoc {w wP wr w' : World} {g : Nat} {A : Option Addr} {n c : Nat} {pv' lv v5 : Value} {P : F} {M : Nat} {l : List ByteArray} {s : ByteArray} (h : VL w wP wr g A n c pv' lv P M l) (hs : ValOK 2 s) (hgP : g < wP.heap.size) (hwP : w.heap.size ≤ wP.heap.size)
    (hown : w'.ownsRow wP.heap.size 23 1 v5 (M + 1) (l.map Value.string ++ [.string s])) (hg : wr.grownBy w' lv.ownBlock) : VL w wP w' g A n c pv' v5 P (M + 1) (l ++ [s]) := by
  have hr : ∀ j, lv.ownBlock = some j → wP.heap.size ≤ j := fun j hj => (h.own.lt j hj).1
  refine ⟨by rw [List.length_append, h.len]; rfl, fun t ht => ?_, by rw [List.map_append]; exact hown, h.cs.row hg (fun j hj => Nat.lt_of_lt_of_le hgP (hr j hj)), h.row.apart2 h.own (by decide) hg, below_row h.below hg (fun j hj => Nat.le_trans hwP (hr j hj)), Nat.le_trans h.size hg.size⟩
  rcases List.mem_append.1 ht with ht | ht
  · exact h.val t ht
  · simp at ht; subst ht; exact hs
set_option linter.unusedSimpArgs false in
set_option maxRecDepth 100000 in
set_option maxHeartbeats 12800000 in
theorem patternMatchesBuilt_any (a0 : Option Addr) (n0 c0 : Nat) (h0 : n0 ≤ maxLen) (w : World) (hI0 : InInts w a0 n0) :
    Calls Tryz.prog 4 #[.slice a0 n0 c0] w fun e w' => e = .returned (.bool true) ∧ Below w.heap.size w w' := by
  have HC0 := hide (CSt.start (c := c0) hI0)
  have HB0 : Hid (Below w.heap.size w (w.alloc (.cells #[.slice a0 n0 c0, .int .i64 0] 56))) := hide ((Below.refl _ _).alloc (Nat.le_refl _) _)
  have HN0 := Lib.hid h0
  have HV2 := Lib.hid (value_st 2 (by decide) (by decide) 2 rfl)
  have HV3 := Lib.hid (value_st 3 (by decide) (by decide) 3 rfl)
  have HAW := Lib.hid (fun W => awake_any W)
  obtain ⟨j0, hj0, hjz0, hjz1, hjz2⟩ := info_parts val_info
  clear hI0 h0
  go_enter Tryz.func4, Tryz.ntmps4
  go_wp2_with fail
  refine (new_cho w a0 n0 c0).mono ?_
  rintro e w1 ⟨rfl, rfl⟩
  generalize w.alloc (.cells #[.slice a0 n0 c0, .int .i64 0] 56) = w1 at *
  obtain ⟨g, hg0⟩ : ∃ g, g = w.heap.size := ⟨_, rfl⟩
  rw [← hg0] at HC0 ⊢
  have HGL : Hid (w.heap.size ≤ g) := Lib.hid (Nat.le_of_eq hg0.symm)
  clear hg0
  go_wp2_with fail
  refine (pat_st 3 (by decide) (by decide) 3 rfl w1 g a0 n0 c0 (unhide HC0) HN0.out).mono ?_
  rintro e wP ⟨AP, mp, dp, P, rfl, hgen, hrow, hcP, hgP⟩
  have HGF := Lib.hid hgen
  have HGP : Hid (g < wP.heap.size) := Lib.hid hcP.lt
  have HWP : Hid (w.heap.size ≤ wP.heap.size) := Lib.hid (by have := (unhide HB0).size; have := hgP.size; omega)
  have HL0 := hide (VL.mk (w := w) (wP := wP) (l := []) rfl (fun s h => by cases h) (World.ownsRow_nil wP wP.heap.size 23 1) hcP hrow (below_grown (unhide HB0) hgP HGL.out (Nat.le_refl _)) (Nat.le_refl _))
  have HPL : Hid (P.fl.length ≤ 512) := Lib.hid (by have := hgen.len; simp at this; omega)
  have HOK : Hid (P.ok 64 = true) := Lib.hid (ok64 hgen.ok (by decide))
  have hmp : mp ≤ 512 := by have := hrow.in_.1; have := HPL.out; omega
  have HMP : Hid (mp = P.fl.length) := Lib.hid hrow.in_.1
  clear hgen hrow hcP hgP HC0 HB0
  go_wp2_with fail
  go_loopw [5, 6] (fun lv iv wr => ∃ (i M : Nat) (l : List ByteArray), iv = .int .i64 i ∧ i ≤ mp ∧ M ≤ i ∧ Hid (M = varsN (P.fl.take i)) ∧ Hid (VL w wP wr g a0 n0 c0 (.slice AP mp dp) lv P M l)) (fun _ iv _ => mp - (intOf iv).toNat)
  case atStart => exact ⟨0, 0, [], rfl, by omega, by omega, Lib.hid rfl, HL0⟩
  case round =>
    clear HL0
    obtain ⟨i, M, l, rfl, hi, hMi, hMv, hL⟩ := hrel
    obtain ⟨V, cv, rfl⟩ := owns_form (unhide hL).own
    by_cases hlt : i < mp
    · obtain ⟨t, ht⟩ : ∃ t, P.fl[i]? = some t := ⟨_, List.getElem?_eq_getElem (by have := HMP.out; omega)⟩
      have hst := varsN_take ht
      obtain ⟨b, off, hAe, hb, x0, x1, x2⟩ := cd_at (unhide hL).row.in_.2 ht
      subst hAe
      obtain ⟨k, num, kids⟩ := t
      dsimp only at x0 x1 x2 hst
      clear ht hb
      by_cases h30 : k = 30
      · subst h30
        rw [if_pos rfl, ← hMv.out] at hst
        have HST := Lib.hid hst
        clear hst hMv
        go_wp2_with fail
        refine (HV2.out _ g a0 n0 c0 (unhide hL).cs HN0.out).mono ?_
        rintro e w3 ⟨s, rfl, hs, hc3, hg3⟩
        have HL3 := hide ((unhide hL).grown hc3 hg3 HGL.out HGP.out)
        have HSV := Lib.hid hs
        have hba : Below w3.heap.size w3 (w3.alloc (.cells #[.string s] 23)) := (Below.refl _ _).alloc (Nat.le_refl _) _
        have HL4 := hide ((unhide HL3).to hba)
        have hsz : wP.heap.size ≤ (w3.alloc (.cells #[.string s] 23)).heap.size := (unhide HL4).size
        clear hs hc3 hg3 hba HL3 hL
        go_wp2_with (at_builtin; refine wpList_app _ rfl _ _ 24 rfl wP.heap.size 23 j0 _ 1 16 Tryz.underlying24 hj0 hjz0 hjz1 hjz2 rfl (by decide) _ M _ rfl (unhide HL4).own (some ⟨w3.heap.size, 0, none⟩) 1 1 [.string s] rfl rfl (new_in w3 23 #[.string s]) (one_str s) (by unfold maxLen; omega) (by omega) hsz ?_; intro v5 w5 hown5 hgrow5 _)
        have HL5 := hide ((unhide HL4).snoc HSV.out HGP.out HWP.out hown5 hgrow5)
        clear hown5 hgrow5 HL4 hsz
        go_wp2_with fail
        go_roundw
        case rel => exact ⟨i + 1, M + 1, l ++ [s], by go_num, by omega, by omega, Lib.hid HST.out.symm, HL5⟩
        case measure => simp [intOf] <;> omega
      · have g30 : (k == 30) = false := beq_eq_false_iff_ne.2 h30
        rw [if_neg h30, Nat.add_zero, ← hMv.out] at hst
        have HST := Lib.hid hst
        clear hst h30 hMv
        go_wp2_with fail
        go_roundw
        case rel => exact ⟨i + 1, M, l, by go_num, by omega, by omega, Lib.hid HST.out.symm, hL⟩
        case measure => simp [intOf] <;> omega
    · obtain rfl : i = mp := by omega
      have hMv : Hid (M = P.vars) := Lib.hid (by rw [hMv.out, HMP.out, List.take_length, F.vars_fl])
      have HMV : Hid (l.length = P.vars) := Lib.hid (by rw [← (unhide hL).len, hMv.out])
      have HSM := Lib.hid (val_small (unhide hL).val)
      have HTT : Hid (totB l ≤ 131072) := Lib.hid (by have h1 := HSM.out.1; have h2 := vars_le P; have h3 := HPL.out; have h4 := HMV.out; omega)
      have HML : Hid (M = l.length) := Lib.hid (unhide hL).len
      have HPR := hide (unhide hL).row
      have HLR := hide (InC.own (unhide hL).own)
      have HDL := hide (owns_le (unhide hL).own)
      have HBW := hide (unhide hL).below
      have HCS := hide (unhide hL).cs
      have HRB : Hid (refB P l = buildP P.fl l) := Lib.hid (ref_build HGF.out.one HOK.out (by have := HPL.out; omega) HMV.out HTT.out)
      have HBD : Hid (∀ W, PRow W g (.slice AP i dp) P → InC W V (l.map Value.string) → Calls Tryz.prog 15 #[.slice AP i dp, .slice V M cv] W (BuildPost W (buildP P.fl l))) := Lib.hid (fun W h1 h2 => buildP_any P.fl l AP V i dp M cv W h1.in_.1 (by omega) h1.in_.2 HML.out (by omega) HDL.out HSM.out.2 h2)
      have HRBD : Hid (∀ W, PRow W g (.slice AP i dp) P → InC W V (l.map Value.string) → Calls Tryz.prog 16 #[.slice AP i dp, .slice V M cv] W fun e w' => e = .returned (.tuple #[.string ((refB P l).getD ⟨#[]⟩), .bool (refB P l).isSome]) ∧ Below W.heap.size W w') := Lib.hid (fun W h1 h2 => rbuild_t P HGF.out.one HOK.out l AP V i dp M cv W h1.in_.1 (by omega) h1.in_.2 HML.out (by omega) HMV.out HSM.out.2 h2)
      rw [HRB.out] at HRBD
      have HMT : Hid (∀ v, buildP P.fl l = some v → v.size ≤ 281474976710656 ∧ matchR P.fl v = some l) := Lib.hid fun v hv => ⟨by have := (tree_val (Nat.le_refl _) (build_valid hv)).2.2; omega, build_match HGF.out.one HOK.out (by have := HPL.out; omega) HMV.out HTT.out hv⟩
      clear hL hMv HSM HTT HDL HRB hlt HV3 HGF HOK
      obtain ⟨r, hr⟩ : ∃ r, r = buildP P.fl l := ⟨_, rfl⟩
      rw [← hr] at HBD HRBD HMT
      clear hr
      go_wp2_with fail
      refine (HBD.out _ (unhide HPR) (unhide HLR)).mono ?_
      rintro e w6 ⟨rfl, hb6⟩
      have HPR6 := hide ((unhide HPR).below hb6)
      have HLR6 := hide ((unhide HLR).below hb6)
      have HBW6 := hide ((unhide HBW).trans (hb6.mono (unhide HBW).size))
      clear hb6 HPR HLR HBW HBD HCS
      cases r with
      | none =>
        clear HMT
        simp only [Option.isSome_none, Option.getD_none] at HRBD ⊢
        go_wp2_with fail
        refine (HRBD.out _ (unhide HPR6) (unhide HLR6)).mono ?_
        rintro e w7 ⟨rfl, hb7⟩
        have HBW7 := hide ((unhide HBW6).trans (hb7.mono (unhide HBW6).size))
        clear hb7
        go_wp2_with fail
        refine (HAW.out _).mono ?_
        rintro e w8 ⟨rfl, hb8⟩
        have HBW8 := hide ((unhide HBW7).trans (hb8.mono (unhide HBW7).size))
        clear hb8
        go_wp2_with fail
        go_ret
        exact ⟨rfl, unhide HBW8⟩
      | some v =>
        obtain ⟨hvs, hmt⟩ := HMT.out v rfl
        have HMA := Lib.hid (fun W (h1 : PRow W g (.slice AP i dp) P) => match_any P.fl AP i dp v hvs W h1.in_.1 (by omega) h1.in_.2)
        rw [hmt] at HMA
        clear HMT HRBD hvs hmt
        simp only [Option.isSome_some, Option.getD_some]
        go_wp2_with fail
        refine (HMA.out _ (unhide HPR6)).mono ?_
        rintro e w7 ⟨A7, m7, d7, rfl, ⟨hout, -⟩, hb7⟩
        obtain ⟨h1, h2, h3⟩ := hout l rfl
        have HO7 := hide (InC.own h3)
        have HLR7 := hide ((unhide HLR6).below hb7)
        have HBW7 := hide ((unhide HBW6).trans (hb7.mono (unhide HBW6).size))
        have HM7 := Lib.hid h1
        clear hout h1 h3 hb7 HMA HPR6 HLR6 HBW6
        simp only [Option.isSome_some]
        go_wp2_with fail
        refine (HAW.out _).mono ?_
        rintro e w8 ⟨rfl, hb8⟩
        have HO8 := hide ((unhide HO7).below hb8)
        have HLR8 := hide ((unhide HLR7).below hb8)
        have HBW8 := hide ((unhide HBW7).trans (hb8.mono (unhide HBW7).size))
        clear hb8 HO7 HLR7 HBW7
        go_wp2_with fail
        refine (eqS_me l A7 V m7 M d7 cv _ HM7.out HML.out (by omega) (by omega) (unhide HO8) (unhide HLR8)).mono ?_
        rintro e w9 ⟨rfl, hb9⟩
        have HBW9 := hide ((unhide HBW8).trans (hb9.mono (unhide HBW8).size))
        clear hb9
        go_wp2_with fail
        go_ret
        exact ⟨rfl, unhide HBW9⟩

end Go.Proofs.YtdifpemohdnolaaGreat
