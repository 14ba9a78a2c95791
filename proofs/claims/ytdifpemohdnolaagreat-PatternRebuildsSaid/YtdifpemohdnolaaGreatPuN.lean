/- PatternRebuilds. Condition: a slice of numbers has a length. -/
-- by tools/gen_pum.py
import Derived.Test.YtdifpemohdnolaaGreatPuM
namespace Go.Proofs.YtdifpemohdnolaaGreat
open Go.RowKit VM

theorem mt_valid : ∀ (f : F) {xs us : List ByteArray}, f.mt xs = some us → (∀ s ∈ xs, valB 32 s = true) → ∀ s ∈ us, valB 32 s = true
  | .nil, _, _, h, _, s, hs => by cases h; cases hs
  | .node o n k r, xs, us, h, hv, s, hs => by
    cases xs with
    | nil => cases h
    | cons v vs =>
      obtain ⟨l, a, b, e1, e2, e3, rfl⟩ := mt_cases h
      have hv0 := hv v (List.mem_cons_self ..)
      rcases List.mem_append.1 hs with hs | hs
      · rcases List.mem_append.1 hs with hs | hs
        · by_cases ho : o = 30
          · rw [if_pos ho] at hs; simp at hs; subst hs; exact hv0
          · rw [if_neg ho] at hs; cases hs
        · exact mt_valid k e2 (split_val hv0 e1) s hs
      · exact mt_valid r e3 (fun t ht => hv t (List.mem_cons_of_mem _ ht)) s hs
theorem mt_size {P : F} {v : ByteArray} {m : List ByteArray} (h1 : ∃ o n k, P = .node o n k .nil) (h2 : P.ok 64 = true) (h3 : P.fl.length ≤ 8192) (h : matchR P.fl v = some m) : ∀ s ∈ m, s.size ≤ 281474976710656 := by
  obtain ⟨o, n, k, rfl⟩ := h1
  rw [match_t h2 h3] at h
  split at h
  · rename_i q
    refine small_of fun s hs => mt_valid _ h (fun t ht => ?_) s hs
    simp at ht
    subst ht
    exact q
  · cases h
set_option linter.unusedSimpArgs false in
set_option maxRecDepth 100000 in
set_option maxHeartbeats 12800000 in
theorem patternRebuilds_any (a0 : Option Addr) (n0 c0 : Nat) (h0 : n0 ≤ maxLen) (w : World) (hI0 : InInts w a0 n0) :
    Calls Tryz.prog 5 #[.slice a0 n0 c0] w fun e w' => e = .returned (.bool true) ∧ Below w.heap.size w w' := by
  have HC0 := hide (CSt.start (c := c0) hI0)
  have HB0 : Hid (Below w.heap.size w (w.alloc (.cells #[.slice a0 n0 c0, .int .i64 0] 56))) := hide ((Below.refl _ _).alloc (Nat.le_refl _) _)
  have HN0 := Lib.hid h0
  have HV2 := Lib.hid (value_st 2 (by decide) (by decide) 2 rfl)
  have HV3 := Lib.hid (value_st 3 (by decide) (by decide) 3 rfl)
  have HAW := Lib.hid (fun W => awake_any W)
  obtain ⟨j0, hj0, hjz0, hjz1, hjz2⟩ := info_parts val_info
  clear hI0 h0
  go_enter Tryz.func5, Tryz.ntmps5
  go_wp2_with fail
  refine (new_cho w a0 n0 c0).mono ?_
  rintro e w1 ⟨rfl, rfl⟩
  generalize w.alloc (.cells #[.slice a0 n0 c0, .int .i64 0] 56) = w1 at *
  obtain ⟨g, hg0⟩ : ∃ g, g = w.heap.size := ⟨_, rfl⟩
  rw [← hg0] at HC0 ⊢
  have HGL : Hid (w.heap.size ≤ g) := Lib.hid (Nat.le_of_eq hg0.symm)
  clear hg0
  go_wp2_with fail
  refine (pat_st 3 (by decide) (by decide) 3 rfl w1 g a0 n0 c0 (unhide HC0) HN0.out).mono ?_
  rintro e wP ⟨AP, mp, dp, P, rfl, hgen, hrow, hcP, hgP⟩
  have HGF := Lib.hid hgen
  have HGP : Hid (g < wP.heap.size) := Lib.hid hcP.lt
  have HWP : Hid (w.heap.size ≤ wP.heap.size) := Lib.hid (by have := (unhide HB0).size; have := hgP.size; omega)
  have HL0 := hide (VL.mk (w := w) (wP := wP) (l := []) rfl (fun s h => by cases h) (World.ownsRow_nil wP wP.heap.size 23 1) hcP hrow (below_grown (unhide HB0) hgP HGL.out (Nat.le_refl _)) (Nat.le_refl _))
  have HPL : Hid (P.fl.length ≤ 512) := Lib.hid (by have := hgen.len; simp at this; omega)
  have HOK : Hid (P.ok 64 = true) := Lib.hid (ok64 hgen.ok (by decide))
  have hmp : mp ≤ 512 := by have := hrow.in_.1; have := HPL.out; omega
  have HMP : Hid (mp = P.fl.length) := Lib.hid hrow.in_.1
  clear hgen hrow hcP hgP HC0 HB0
  have HVR := Lib.hid (fun W (h1 : PRow W g (.slice AP mp dp) P) => rvars_any P.fl AP mp dp W h1.in_.1 (by omega) h1.in_.2)
  rw [F.vars_fl] at HVR
  have hvl : P.vars ≤ 512 := by have := vars_le P; have := HPL.out; omega
  obtain ⟨K, hK⟩ : ∃ K, K = P.vars := ⟨_, rfl⟩
  rw [← hK] at HVR hvl
  have HK := Lib.hid hK
  clear hK
  go_wp2_with fail
  go_loopw [5, 6] (fun lv iv wr => ∃ (i : Nat) (l : List ByteArray), iv = .int .i64 i ∧ i ≤ K ∧ Hid (VL w wP wr g a0 n0 c0 (.slice AP mp dp) lv P i l)) (fun _ iv _ => K - (intOf iv).toNat)
  case atStart => exact ⟨0, [], rfl, by omega, HL0⟩
  case round =>
    clear HL0
    obtain ⟨M, l, rfl, hi, hL⟩ := hrel
    obtain ⟨V, cv, rfl⟩ := owns_form (unhide hL).own
    go_wp2_with fail
    refine (HVR.out _ (unhide hL).row).mono ?_
    rintro e w2 ⟨rfl, hb2⟩
    have HL2 := hide ((unhide hL).to hb2)
    clear hb2 hL
    have hL := HL2
    clear HL2
    by_cases hlt : M < K
    · go_wp2_with fail
      refine (HV2.out _ g a0 n0 c0 (unhide hL).cs HN0.out).mono ?_
      rintro e w3 ⟨s, rfl, hs, hc3, hg3⟩
      have HL3 := hide ((unhide hL).grown hc3 hg3 HGL.out HGP.out)
      have HSV := Lib.hid hs
      have hba : Below w3.heap.size w3 (w3.alloc (.cells #[.string s] 23)) := (Below.refl _ _).alloc (Nat.le_refl _) _
      have HL4 := hide ((unhide HL3).to hba)
      have hsz : wP.heap.size ≤ (w3.alloc (.cells #[.string s] 23)).heap.size := (unhide HL4).size
      clear hs hc3 hg3 hba HL3 hL
      go_wp2_with (at_builtin; refine wpList_app _ rfl _ _ 24 rfl wP.heap.size 23 j0 _ 1 16 Tryz.underlying24 hj0 hjz0 hjz1 hjz2 rfl (by decide) _ M _ rfl (unhide HL4).own (some ⟨w3.heap.size, 0, none⟩) 1 1 [.string s] rfl rfl (new_in w3 23 #[.string s]) (one_str s) (by unfold maxLen; omega) (by omega) hsz ?_; intro v5 w5 hown5 hgrow5 _)
      have HL5 := hide ((unhide HL4).snoc HSV.out HGP.out HWP.out hown5 hgrow5)
      clear hown5 hgrow5 HL4 hsz
      go_wp2_with fail
      go_roundw
      case rel => exact ⟨M + 1, l ++ [s], by go_num, by omega, HL5⟩
      case measure => simp [intOf] <;> omega
    · obtain rfl : M = K := by omega
      have hMv : Hid (M = P.vars) := Lib.hid HK.out
      have HMV : Hid (l.length = P.vars) := Lib.hid (by rw [← (unhide hL).len, hMv.out])
      have HSM := Lib.hid (val_small (unhide hL).val)
      have HTT : Hid (totB l ≤ 131072) := Lib.hid (by have h1 := HSM.out.1; have h2 := vars_le P; have h3 := HPL.out; have h4 := HMV.out; omega)
      have HML : Hid (M = l.length) := Lib.hid (unhide hL).len
      have HPR := hide (unhide hL).row
      have HLR := hide (InC.own (unhide hL).own)
      have HDL := hide (owns_le (unhide hL).own)
      have HBW := hide (unhide hL).below
      have HCS := hide (unhide hL).cs
      have HRB : Hid (refB P l = buildP P.fl l) := Lib.hid (ref_build HGF.out.one HOK.out (by have := HPL.out; omega) HMV.out HTT.out)
      have HRBD : Hid (∀ W, PRow W g (.slice AP mp dp) P → InC W V (l.map Value.string) → Calls Tryz.prog 16 #[.slice AP mp dp, .slice V M cv] W fun e w' => e = .returned (.tuple #[.string ((refB P l).getD ⟨#[]⟩), .bool (refB P l).isSome]) ∧ Below W.heap.size W w') := Lib.hid (fun W h1 h2 => rbuild_t P HGF.out.one HOK.out l AP V mp dp M cv W h1.in_.1 (by omega) h1.in_.2 HML.out (by omega) HMV.out HSM.out.2 h2)
      rw [HRB.out] at HRBD
      have HBM : Hid (∀ v, buildP P.fl l = some v → valB 32 v = true ∧ matchR P.fl v = some l) := Lib.hid fun v hv => ⟨build_valid hv, build_match HGF.out.one HOK.out (by have := HPL.out; omega) HMV.out HTT.out hv⟩
      have HMA : Hid (∀ v, valB 32 v = true → ∀ W, PRow W g (.slice AP mp dp) P → Calls Tryz.prog 17 #[.slice AP mp dp, .string v] W (MatchPost W (matchR P.fl v))) := Lib.hid fun v hv W h1 => match_any P.fl AP mp dp v (by have := (tree_val (Nat.le_refl _) hv).2.2; omega) W h1.in_.1 (by omega) h1.in_.2
      clear hL hMv HSM HTT HDL HRB hlt
      obtain ⟨r, hr⟩ : ∃ r, r = buildP P.fl l := ⟨_, rfl⟩
      rw [← hr] at HRBD HBM
      clear hr
      go_wp2_with fail
      refine (HRBD.out _ (unhide HPR) (unhide HLR)).mono ?_
      rintro e w5 ⟨rfl, hb5⟩
      have HPR5 := hide ((unhide HPR).below hb5)
      have HBW5 := hide ((unhide HBW).trans (hb5.mono (unhide HBW).size))
      have HCS5 := hide ((unhide HCS).below hb5)
      clear hb5 HPR HLR HBW HRBD HCS
      cases r with
      | none =>
        clear HBM
        simp only [Option.isSome_none, Option.getD_none]
        go_wp2_with fail
        refine (HV3.out _ g a0 n0 c0 (unhide HCS5) HN0.out).mono ?_
        rintro e w6 ⟨v, rfl, hv, hc6, hg6⟩
        have HPR6 := hide ((unhide HPR5).grown hg6)
        have HBW6 := hide (below_grown (unhide HBW5) hg6 HGL.out (Nat.le_refl _))
        have HMT := Lib.hid (HMA.out v (valB_le (by decide) hv.1))
        obtain ⟨r2, hr2⟩ : ∃ r2, r2 = matchR P.fl v := ⟨_, rfl⟩
        rw [← hr2] at HMT
        have HR2 := Lib.hid hr2
        clear hv hc6 hg6 hr2 HCS5 HPR5 HBW5 HMA
        go_wp2_with fail
        refine (HMT.out _ (unhide HPR6)).mono ?_
        rintro e w7 ⟨A7, m7, d7, rfl, ⟨hout, hno⟩, hb7⟩
        have HPR7 := hide ((unhide HPR6).below hb7)
        have HBW7 := hide ((unhide HBW6).trans (hb7.mono (unhide HBW6).size))
        clear hb7 HMT
        clear HPR6 HBW6
        cases r2 with
        | none =>
          obtain rfl : m7 = 0 := hno rfl
          clear hout hno
          simp only [Option.isSome_none]
          go_wp2_with fail
          refine (HAW.out _).mono ?_
          rintro e w8 ⟨rfl, hb8⟩
          have HBW8 := hide ((unhide HBW7).trans (hb8.mono (unhide HBW7).size))
          clear hb8
          go_wp2_with fail
          go_ret
          exact ⟨rfl, unhide HBW8⟩
        | some mm =>
          have HMQ : Hid (matchR P.fl v = some mm) := Lib.hid HR2.out.symm
          clear HR2
          obtain ⟨h1, h2, h3⟩ := hout mm rfl
          have HM7 := Lib.hid h1
          have HO7 := hide (InC.own h3)
          have HD7 := hide (owns_le h3)
          have HMB := Lib.hid (match_build HGF.out.one HOK.out (by have := HPL.out; omega) HMQ.out)
          have HMS := Lib.hid (mt_size HGF.out.one HOK.out (by have := HPL.out; omega) HMQ.out)
          have HBD : Hid (∀ W, PRow W g (.slice AP mp dp) P → InC W A7 (mm.map Value.string) → Calls Tryz.prog 15 #[.slice AP mp dp, .slice A7 m7 d7] W (BuildPost W (buildP P.fl mm))) := Lib.hid (fun W h1 h2 => buildP_any P.fl mm AP A7 mp dp m7 d7 W h1.in_.1 (by omega) h1.in_.2 HM7.out (by omega) HD7.out HMS.out h2)
          have HVA : Hid (∀ W, PRow W g (.slice AP mp dp) P → Calls Tryz.prog 19 #[.slice AP mp dp] W fun e w' => e = .returned (.int .i64 (m7 : Int)) ∧ Below W.heap.size W w') := Lib.hid (fun W h1 => by
            have q := vars_any P.fl AP mp dp W h1.in_.1 (by omega) h1.in_.2
            rw [F.vars_fl, ← HMB.out.1, ← HM7.out] at q
            exact q)
          have HWV := Lib.hid HMB.out.2
          obtain ⟨r3, hr3⟩ : ∃ r3, r3 = buildP P.fl mm := ⟨_, rfl⟩
          rw [← hr3] at HBD HWV
          clear hout hno h1 h3 hr3 HMB HMS HMQ
          simp only [Option.isSome_some]
          go_wp2_with fail
          refine (HBD.out _ (unhide HPR7) (unhide HO7)).mono ?_
          rintro e w8 ⟨rfl, hb8⟩
          have HPR8 := hide ((unhide HPR7).below hb8)
          have HBW8 := hide ((unhide HBW7).trans (hb8.mono (unhide HBW7).size))
          clear hb8 HBD HPR7 HBW7 HO7
          cases r3 with
          | none =>
            clear HWV
            simp only [Option.isSome_none, Option.getD_none]
            go_wp2_with fail
            refine (HAW.out _).mono ?_
            rintro e w9 ⟨rfl, hb9⟩
            have HPR9 := hide ((unhide HPR8).below hb9)
            have HBW9 := hide ((unhide HBW8).trans (hb9.mono (unhide HBW8).size))
            clear hb9
            go_wp2_with fail
            refine (HVA.out _ (unhide HPR9)).mono ?_
            rintro e w10 ⟨rfl, hb10⟩
            have HBW10 := hide ((unhide HBW9).trans (hb10.mono (unhide HBW9).size))
            clear hb10
            go_wp2_with fail
            go_ret
            exact ⟨rfl, unhide HBW10⟩
          | some x =>
            obtain rfl : x = v := HWV.out x rfl
            clear HWV
            have sx : (x.toList == x.toList) = true := beq_self_eq_true _
            simp only [Option.isSome_some, Option.getD_some]
            go_wp2_with fail
            refine (HAW.out _).mono ?_
            rintro e w9 ⟨rfl, hb9⟩
            have HPR9 := hide ((unhide HPR8).below hb9)
            have HBW9 := hide ((unhide HBW8).trans (hb9.mono (unhide HBW8).size))
            clear hb9
            go_wp2_with fail
            refine (HVA.out _ (unhide HPR9)).mono ?_
            rintro e w10 ⟨rfl, hb10⟩
            have HBW10 := hide ((unhide HBW9).trans (hb10.mono (unhide HBW9).size))
            clear hb10
            go_wp2_with fail
            go_ret
            exact ⟨rfl, unhide HBW10⟩
      | some v =>
        obtain ⟨hvv, hmt⟩ := HBM.out v rfl
        have HMT := Lib.hid (HMA.out v hvv)
        rw [hmt] at HMT
        have HMQ := Lib.hid hmt
        clear HBM HMA hvv hmt HCS5
        obtain ⟨mm, hmm⟩ : ∃ mm, mm = l := ⟨_, rfl⟩
        rw [← hmm] at HMT HMQ
        clear hmm
        simp only [Option.isSome_some, Option.getD_some]
        go_wp2_with fail
        refine (HMT.out _ (unhide HPR5)).mono ?_
        rintro e w7 ⟨A7, m7, d7, rfl, ⟨hout, hno⟩, hb7⟩
        have HPR7 := hide ((unhide HPR5).below hb7)
        have HBW7 := hide ((unhide HBW5).trans (hb7.mono (unhide HBW5).size))
        clear hb7 HMT
        clear HPR5 HBW5
        obtain ⟨h1, h2, h3⟩ := hout mm rfl
        have HM7 := Lib.hid h1
        have HO7 := hide (InC.own h3)
        have HD7 := hide (owns_le h3)
        have HMB := Lib.hid (match_build HGF.out.one HOK.out (by have := HPL.out; omega) HMQ.out)
        have HMS := Lib.hid (mt_size HGF.out.one HOK.out (by have := HPL.out; omega) HMQ.out)
        have HBD : Hid (∀ W, PRow W g (.slice AP mp dp) P → InC W A7 (mm.map Value.string) → Calls Tryz.prog 15 #[.slice AP mp dp, .slice A7 m7 d7] W (BuildPost W (buildP P.fl mm))) := Lib.hid (fun W h1 h2 => buildP_any P.fl mm AP A7 mp dp m7 d7 W h1.in_.1 (by omega) h1.in_.2 HM7.out (by omega) HD7.out HMS.out h2)
        have HVA : Hid (∀ W, PRow W g (.slice AP mp dp) P → Calls Tryz.prog 19 #[.slice AP mp dp] W fun e w' => e = .returned (.int .i64 (m7 : Int)) ∧ Below W.heap.size W w') := Lib.hid (fun W h1 => by
          have q := vars_any P.fl AP mp dp W h1.in_.1 (by omega) h1.in_.2
          rw [F.vars_fl, ← HMB.out.1, ← HM7.out] at q
          exact q)
        have HWV := Lib.hid HMB.out.2
        obtain ⟨r3, hr3⟩ : ∃ r3, r3 = buildP P.fl mm := ⟨_, rfl⟩
        rw [← hr3] at HBD HWV
        clear hout hno h1 h3 hr3 HMB HMS HMQ
        simp only [Option.isSome_some]
        go_wp2_with fail
        refine (HBD.out _ (unhide HPR7) (unhide HO7)).mono ?_
        rintro e w8 ⟨rfl, hb8⟩
        have HPR8 := hide ((unhide HPR7).below hb8)
        have HBW8 := hide ((unhide HBW7).trans (hb8.mono (unhide HBW7).size))
        clear hb8 HBD HPR7 HBW7 HO7
        cases r3 with
        | none =>
          clear HWV
          simp only [Option.isSome_none, Option.getD_none]
          go_wp2_with fail
          refine (HAW.out _).mono ?_
          rintro e w9 ⟨rfl, hb9⟩
          have HPR9 := hide ((unhide HPR8).below hb9)
          have HBW9 := hide ((unhide HBW8).trans (hb9.mono (unhide HBW8).size))
          clear hb9
          go_wp2_with fail
          refine (HVA.out _ (unhide HPR9)).mono ?_
          rintro e w10 ⟨rfl, hb10⟩
          have HBW10 := hide ((unhide HBW9).trans (hb10.mono (unhide HBW9).size))
          clear hb10
          go_wp2_with fail
          go_ret
          exact ⟨rfl, unhide HBW10⟩
        | some x =>
          obtain rfl : x = v := HWV.out x rfl
          clear HWV
          have sx : (x.toList == x.toList) = true := beq_self_eq_true _
          simp only [Option.isSome_some, Option.getD_some]
          go_wp2_with fail
          refine (HAW.out _).mono ?_
          rintro e w9 ⟨rfl, hb9⟩
          have HPR9 := hide ((unhide HPR8).below hb9)
          have HBW9 := hide ((unhide HBW8).trans (hb9.mono (unhide HBW8).size))
          clear hb9
          go_wp2_with fail
          refine (HVA.out _ (unhide HPR9)).mono ?_
          rintro e w10 ⟨rfl, hb10⟩
          have HBW10 := hide ((unhide HBW9).trans (hb10.mono (unhide HBW9).size))
          clear hb10
          go_wp2_with fail
          go_ret
          exact ⟨rfl, unhide HBW10⟩

end Go.Proofs.YtdifpemohdnolaaGreat
