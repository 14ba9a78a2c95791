/- PatternIrrefutable. Conditions: a slice of numbers has a length; the string has at most 2^48 bytes. -/
-- (kept in tools/pui.txt too)
import Derived.Test.YtdifpemohdnolaaGreatPuG
namespace Go.Proofs.YtdifpemohdnolaaGreat
open Go.RowKit VM

def TreePost (w : World) (g : Nat) (P : F) (e : Ending) (w' : World) : Prop :=
  ∃ (A : Option Addr) (m d : Nat), e = .returned (.slice A m d) ∧ PRow w' g (.slice A m d) P ∧ Below w.heap.size w w'
theorem leaf_any (op num : Int) (g : Nat) (w : World) (hg : g < w.heap.size) : Calls Tryz.prog 20 #[.int .i64 op, .int .i64 num, .slice none 0 0] w (TreePost w g (leafF op num)) := by
  refine (node_any op num [] [] none 0 0 w rfl (by decide) ⟨rfl, fun i r p h => by cases h⟩ (.inl rfl)).mono ?_
  rintro e w' ⟨A, m, d, rfl, hm, ho, hb⟩
  exact ⟨A, m, d, rfl, PRow.made hg hm ho, hb⟩
theorem two_any (op : Int) (P Q : F) (hP1 : P.cnt = 1) (hQ1 : Q.cnt = 1) (hPl : P.fl.length ≤ 8192) (hQl : Q.fl.length ≤ 8192) (g : Nat) (A B : Option Addr) (mp dp mq dq : Nat) (w : World) (hg : g < w.heap.size) (hP : PRow w g (.slice A mp dp) P) (hQ : PRow w g (.slice B mq dq) Q) :
    Calls Tryz.prog 20 #[.int .i64 op, .int .i64 0, .slice (some ⟨w.heap.size, 0, none⟩) 2 2] (w.alloc (.cells #[.slice A mp dp, .slice B mq dq] 22)) (TreePost (w.alloc (.cells #[.slice A mp dp, .slice B mq dq] 22)) g (.node op 0 (P.app Q) .nil)) := by
  obtain ⟨h1, h2⟩ := hP.in_
  obtain ⟨h3, h4⟩ := hQ.in_
  refine (node_any op 0 [P.fl, Q.fl] [(A, mp, dp), (B, mq, dq)] (some ⟨w.heap.size, 0, none⟩) 2 2 _ rfl (by decide) ⟨rfl, fun i r p a b => ?_⟩ (new_in w 22 #[.slice A mp dp, .slice B mq dq])).mono ?_
  · match i with
    | 0 => cases a; cases b; exact ⟨h1, (by show mp ≤ 8192; omega), h2.alloc _⟩
    | 1 => cases a; cases b; exact ⟨h3, (by show mq ≤ 8192; omega), h4.alloc _⟩
    | i + 2 => cases a
  · rintro e w' ⟨A', m, d, rfl, hm, ho, hb⟩
    rw [node_two op P Q hP1 hQ1] at hm ho
    exact ⟨A', m, d, rfl, PRow.made (by simp; omega) hm ho, hb⟩
set_option linter.unusedSimpArgs false in
set_option maxRecDepth 100000 in
set_option maxHeartbeats 12800000 in
theorem patternIrrefutable_any (raw : ByteArray) (hraw : raw.size ≤ 281474976710656) (a0 : Option Addr) (n0 c0 : Nat) (h0 : n0 ≤ maxLen) (w : World) (hI0 : InInts w a0 n0) :
    Calls Tryz.prog 6 #[.slice a0 n0 c0, .string raw] w fun e w' => e = .returned (.bool true) ∧ Below w.heap.size w w' := by
  have HC0 := hide (CSt.start (c := c0) hI0)
  have HB0 : Hid (Below w.heap.size w (w.alloc (.cells #[.slice a0 n0 c0, .int .i64 0] 56))) := hide ((Below.refl _ _).alloc (Nat.le_refl _) _)
  have HN0 := Lib.hid h0
  have HRAW := Lib.hid hraw
  have HV2 := Lib.hid (value_st 2 (by decide) (by decide) 2 rfl)
  have HAW := Lib.hid (fun W => awake_any W)
  have HRV := Lib.hid (fun W => rvalid_any raw hraw W)
  clear hI0 h0 hraw
  go_enter Tryz.func6, Tryz.ntmps6
  go_wp2_with fail
  refine (new_cho w a0 n0 c0).mono ?_
  rintro e w1 ⟨rfl, rfl⟩
  generalize w.alloc (.cells #[.slice a0 n0 c0, .int .i64 0] 56) = w1 at *
  obtain ⟨g, hg0⟩ : ∃ g, g = w.heap.size := ⟨_, rfl⟩
  rw [← hg0] at HC0 ⊢
  have hgl : w.heap.size ≤ g := Nat.le_of_eq hg0.symm
  clear hg0
  go_wp2_with fail
  refine (leaf_any 30 0 g _ (unhide HC0).lt).mono ?_
  rintro e w2 ⟨AP, mp, dp, rfl, hp, hb2⟩
  have HP := hide hp
  have HC2 := hide ((unhide HC0).below hb2)
  have HB2 := hide ((unhide HB0).trans (hb2.mono (unhide HB0).size))
  clear hp hb2 HC0 HB0
  go_wp2_with fail
  refine (leaf_any 30 0 g _ (unhide HC2).lt).mono ?_
  rintro e w3 ⟨AQ, mq, dq, rfl, hq, hb3⟩
  have HQ := hide hq
  have HP3 := hide ((unhide HP).below hb3)
  have HC3 := hide ((unhide HC2).below hb3)
  have HB3 := hide ((unhide HB2).trans (hb3.mono (unhide HB2).size))
  clear hq hb3 HC2 HB2 HP
  go_wp2_with fail
  refine (next_st 4 4 rfl (by decide) (by decide) (unhide HC3) HN0.out).mono ?_
  rintro e w4 ⟨r, hr, rfl, hc4, hG4⟩
  have HQ4 := hide ((unhide HQ).grown hG4)
  have HP4 := hide ((unhide HP3).grown hG4)
  have HC4 := hide hc4
  have HB4 := hide (below_grown (unhide HB3) hG4 hgl (Nat.le_refl _))
  clear hc4 hG4 HC3 HB3 HP3 HQ
  go_wp2_with fail
  go_loopw [6, 7, 8] (fun pv' qv iv wr => ∃ (j m : Nat) (P Q : F), iv = .int .i64 j ∧ Hid (j + m ≤ 3) ∧ j ≤ 3 ∧ Hid (IrrF m P) ∧ Hid (TupF m Q) ∧ Hid (PRow wr g pv' P) ∧ Hid (PRow wr g qv Q) ∧ Hid (CSt wr g a0 n0 c0) ∧ Hid (Below w.heap.size w wr)) (fun _ _ iv _ => (intOf iv).toNat)
  case atStart => exact ⟨r, 0, leafF 30 0, leafF 30 0, rfl, Lib.hid (by omega), by omega, Lib.hid irr_start, Lib.hid tup_start, HP4, HQ4, HC4, HB4⟩
  case round =>
    clear HP4 HQ4 HC4 HB4
    obtain ⟨j, m, P, Q, rfl, hjm, hj3, hI, hT, hP, hQ, hC, hB⟩ := hrel
    obtain ⟨AP, dp, rfl⟩ := hP.out.form
    obtain ⟨AQ, dq, rfl⟩ := hQ.out.form
    generalize P.fl.length = mp at *
    generalize Q.fl.length = mq at *
    by_cases hj : 0 < j
    · have hj0 : 1 ≤ j := hj
      go_wp2_with fail
      refine (next_st 2 2 rfl (by decide) (by decide) (unhide hC) HN0.out).mono ?_
      rintro e w5 ⟨x, hx, rfl, hc5, hG5⟩
      have HQ5 := hide ((unhide hQ).grown hG5)
      have HP5 := hide ((unhide hP).grown hG5)
      have HC5 := hide hc5
      have HB5 := hide (below_grown (unhide hB) hG5 hgl (Nat.le_refl _))
      have HX : Hid ((30 + (x : Int)) = 30 ∨ (30 + (x : Int)) = 31) := Lib.hid (by omega)
      clear hc5 hG5 hC hB hP hQ
      go_wp2_with fail
      refine (leaf_any (30 + (x : Int)) 0 g _ (unhide HC5).lt).mono ?_
      rintro e w6 ⟨AX, mx, dx, rfl, hpx, hb6⟩
      have HX6 := hide hpx
      have HQ6 := hide ((unhide HQ5).below hb6)
      have HP6 := hide ((unhide HP5).below hb6)
      have HC6 := hide ((unhide HC5).below hb6)
      have HB6 := hide ((unhide HB5).trans (hb6.mono (unhide HB5).size))
      clear hpx hb6 HQ5 HP5 HC5 HB5
      have hba : Below w6.heap.size w6 (w6.alloc (.cells #[.slice AP mp dp, .slice AX mx dx] 22)) := (Below.refl _ _).alloc (Nat.le_refl _) _
      have HQ7 := hide ((unhide HQ6).below hba)
      have HC7 := hide ((unhide HC6).below hba)
      have HB7 := hide ((unhide HB6).trans (hba.mono (unhide HB6).size))
      have hPl : P.fl.length ≤ 8192 := by have := hI.out.len; have := hjm.out; omega
      have HTW := hide (two_any 40 P (leafF (30 + (x : Int)) 0) (one_cnt hI.out.one) rfl hPl (by rw [leaf_fl]; simp) g AP AX mp dp mx dx w6 (unhide HC6).lt (unhide HP6) (unhide HX6))
      clear hba hPl HX6 HQ6 HP6 HC6 HB6
      go_wp2_with fail
      refine (unhide HTW).mono ?_
      rintro e w8 ⟨AR, mr, dr, rfl, hpr, hb8⟩
      generalize hwx : w6.alloc (.cells #[.slice AP mp dp, .slice AX mx dx] 22) = w7 at *
      have HR8 := hide hpr
      have HQ8 := hide ((unhide HQ7).below hb8)
      have HC8 := hide ((unhide HC7).below hb8)
      have HB8 := hide ((unhide HB7).trans (hb8.mono (unhide HB7).size))
      have HI8 := Lib.hid (irr_step hI.out HX.out)
      clear hpr hb8 HQ7 HC7 HB7 hwx HTW
      have hba : Below w8.heap.size w8 (w8.alloc (.cells #[.slice AR mr dr, .slice AQ mq dq] 22)) := (Below.refl _ _).alloc (Nat.le_refl _) _
      have HR9 := hide ((unhide HR8).below hba)
      have HC9 := hide ((unhide HC8).below hba)
      have HB9 := hide ((unhide HB8).trans (hba.mono (unhide HB8).size))
      have hPl : (bothF P (30 + (x : Int))).fl.length ≤ 8192 := by have := HI8.out.len; have := hjm.out; omega
      have hQl : Q.fl.length ≤ 8192 := by have := hT.out.len; have := hjm.out; omega
      have HTW := hide (two_any 34 (bothF P (30 + (x : Int))) Q (one_cnt HI8.out.one) (one_cnt hT.out.one) hPl hQl g AR AQ mr dr mq dq w8 (unhide HC8).lt (unhide HR8) (unhide HQ8))
      clear hba hPl hQl HR8 HQ8 HC8 HB8
      go_wp2_with fail
      refine (unhide HTW).mono ?_
      rintro e w10 ⟨AS, ms, ds, rfl, hps, hb10⟩
      generalize hwx : w8.alloc (.cells #[.slice AR mr dr, .slice AQ mq dq] 22) = w9 at *
      have HS10 := hide hps
      have HR10 := hide ((unhide HR9).below hb10)
      have HC10 := hide ((unhide HC9).below hb10)
      have HB10 := hide ((unhide HB9).trans (hb10.mono (unhide HB9).size))
      have HT10 := Lib.hid (tup_step HI8.out hT.out (by have := hjm.out; omega))
      clear hps hb10 HR9 HC9 HB9 hwx HTW
      obtain ⟨j2, rfl⟩ : ∃ j2, j = j2 + 1 := ⟨j - 1, by omega⟩
      have gj : IntKind.i64.wrap (((j2 + 1 : Nat) : Int) - 1) = (j2 : Int) := by rw [show ((j2 + 1 : Nat) : Int) - 1 = (j2 : Int) by omega]; exact IntWalk.i64_in _ (by omega)
      go_wp2_with fail
      go_roundw
      case rel => exact ⟨j2, m + 1, _, _, by go_num, Lib.hid (by have := hjm.out; omega), by omega, HI8, HT10, HR10, HS10, HC10, HB10⟩
      case measure => simp [intOf] <;> omega
    · obtain rfl : j = 0 := by omega
      have HM : Hid (m ≤ 3) := Lib.hid (by have := hjm.out; omega)
      have HCT := Lib.hid (one_cnt hI.out.one)
      have HPL : Hid (P.fl.length ≤ 8192) := Lib.hid (by have := hI.out.len; have := HM.out; omega)
      have HQL : Hid (Q.fl.length ≤ 8192) := Lib.hid (by have := hT.out.len; have := HM.out; omega)
      have HIP : Hid (irrB P.fl = true) := Lib.hid (irrB_of hI.out.one (ok64 hI.out.ok (by have := HM.out; omega)) HPL.out hI.out.irr)
      have HIQ : Hid (irrB Q.fl = true) := Lib.hid (irrB_of hT.out.one (ok64 hT.out.ok (by have := HM.out; omega)) HQL.out hT.out.irr)
      clear hj hj3 hjm
      go_wp2_with fail
      refine (HV2.out _ g a0 n0 c0 (unhide hC) HN0.out).mono ?_
      rintro e w5 ⟨v, rfl, hv, hc5, hG5⟩
      have HQ5 := hide ((unhide hQ).grown hG5)
      have HP5 := hide ((unhide hP).grown hG5)
      have HC5 := hide hc5
      have HB5 := hide (below_grown (unhide hB) hG5 hgl (Nat.le_refl _))
      have HV := Lib.hid hv
      clear hc5 hG5 hC hB hP hQ hv
      go_wp2_with fail
      refine (HV2.out _ g a0 n0 c0 (unhide HC5) HN0.out).mono ?_
      rintro e w6 ⟨u, rfl, hu, hc6, hG6⟩
      have HQ6 := hide ((unhide HQ5).grown hG6)
      have HP6 := hide ((unhide HP5).grown hG6)
      have HC6 := hide hc6
      have HB6 := hide (below_grown (unhide HB5) hG6 hgl (Nat.le_refl _))
      have HU := Lib.hid hu
      clear hc6 hG6 hu HQ5 HP5 HC5 HB5
      have hvs : v.size ≤ 281474976710656 := by have := HV.out.size (by decide); omega
      have hus : u.size ≤ 281474976710656 := by have := HU.out.size (by decide); omega
      have hba : Below w6.heap.size w6 (w6.alloc (.cells #[.string v, .string u] 23)) := (Below.refl _ _).alloc (Nat.le_refl _) _
      have HMK := hide (rmake_any 3 (by decide) [v, u] (some ⟨w6.heap.size, 0, none⟩) 2 2 (w6.alloc (.cells #[.string v, .string u] 23)) rfl (by decide) (fun s hs => by simp at hs; rcases hs with rfl | rfl; exact hvs; exact hus) (new_in w6 23 #[.string v, .string u]))
      have HQ7 := hide ((unhide HQ6).below hba)
      have HP7 := hide ((unhide HP6).below hba)
      have HC7 := hide ((unhide HC6).below hba)
      have HB7 := hide ((unhide HB6).trans (hba.mono (unhide HB6).size))
      have HMV := Lib.hid (fun W A d (h : PRow W g (.slice A mp d) P) => match_any P.fl A mp d v hvs W h.in_.1 (by have := h.in_.1; have := HPL.out; omega) h.in_.2)
      have HMR := Lib.hid (fun W A d (h : PRow W g (.slice A mp d) P) => match_any P.fl A mp d raw HRAW.out W h.in_.1 (by have := h.in_.1; have := HPL.out; omega) h.in_.2)
      have hts : (mkM 3 [v, u]).size ≤ 281474976710656 := Nat.le_trans (mkM_small 3 _) (by decide)
      obtain ⟨us, hus2⟩ := tup_match hI.out HM.out HV.out HU.out
      have HMT := Lib.hid (fun W A m d (h : PRow W g (.slice A m d) (tupF P (leafF 30 0))) => match_any (tupF P (leafF 30 0)).fl A m d (mkM 3 [v, u]) hts W h.in_.1 (by
        have h1 := h.in_.1
        have h2 := HPL.out
        have h3 : (tupF P (leafF 30 0)).fl.length = P.fl.length + 2 := by unfold tupF; show (_ :: ((P.app (leafF 30 0)).fl ++ [])).length = _; rw [F.app_fl, leaf_fl]; simp
        omega) h.in_.2)
      rw [hus2] at HMT
      have HVV : Hid ((matchR P.fl v).isSome = true) := Lib.hid (by rw [irr_match hI.out HM.out, valB_le (by decide) HV.out.1])
      have HVR : Hid ((matchR P.fl raw).isSome = valB 32 raw) := Lib.hid (irr_match hI.out HM.out raw)
      have HTW := Lib.hid (fun W AX mx dx (hg : g < W.heap.size) (h : PRow W g (.slice AP mp dp) P) (hX : PRow W g (.slice AX mx dx) (leafF 30 0)) => two_any 34 P (leafF 30 0) HCT.out rfl HPL.out (by rw [leaf_fl]; simp) g AP AX mp dp mx dx W hg h hX)
      have HTE : Hid (F.node 34 0 (P.app (leafF 30 0)) .nil = tupF P (leafF 30 0)) := Lib.hid rfl
      have HIRP := Lib.hid (fun W (h : PRow W g (.slice AP mp dp) P) => irrefutable_any P.fl AP mp dp W h.in_.1 (by have := h.in_.1; have := HPL.out; omega) h.in_.2)
      have HIRQ := Lib.hid (fun W (h : PRow W g (.slice AQ mq dq) Q) => irrefutable_any Q.fl AQ mq dq W h.in_.1 (by have := h.in_.1; have := HQL.out; omega) h.in_.2)
      rw [HIP.out] at HIRP
      rw [HIQ.out] at HIRQ
      obtain ⟨k, hk⟩ : ∃ k, k = us.length := ⟨_, rfl⟩
      have HGET : Hid (∀ mm, mm = (us ++ [u]).length → mm = k + 1) := Lib.hid (fun mm h => by rw [h, hk]; simp)
      have HGET2 : Hid (((us ++ [u]).map Value.string)[k]? = some (.string u)) := Lib.hid (by rw [hk]; simp)
      clear hba hvs hus hts hus2 hk hI hT HV HU HM HCT HPL HQL HIP HIQ HRAW HQ6 HP6 HC6 HB6 HV2
      generalize mkM 3 [v, u] = t at *
      generalize us ++ [u] = um at *
      go_wp2_with fail
      refine (unhide HMK).mono ?_
      rintro e w8 ⟨rfl, hb8⟩
      generalize hwx : w6.alloc (.cells #[.string v, .string u] 23) = w7 at *
      have HQ8 := hide ((unhide HQ7).below hb8)
      have HP8 := hide ((unhide HP7).below hb8)
      have HC8 := hide ((unhide HC7).below hb8)
      have HB8 := hide ((unhide HB7).trans (hb8.mono (unhide HB7).size))
      clear hb8 HQ7 HP7 HC7 HB7 HMK hwx
      go_wp2_with fail
      refine (HMV.out _ _ _ (unhide HP8)).mono ?_
      rintro e w9 ⟨A9, m9, d9, rfl, -, hb9⟩
      have HQ9 := hide ((unhide HQ8).below hb9)
      have HP9 := hide ((unhide HP8).below hb9)
      have HC9 := hide ((unhide HC8).below hb9)
      have HB9 := hide ((unhide HB8).trans (hb9.mono (unhide HB8).size))
      rw [HVV.out]
      clear hb9 HQ8 HP8 HC8 HB8 HMV HVV
      go_wp2_with fail
      refine (HMR.out _ _ _ (unhide HP9)).mono ?_
      rintro e w10 ⟨A10, m10, d10, rfl, -, hb10⟩
      have HQ10 := hide ((unhide HQ9).below hb10)
      have HP10 := hide ((unhide HP9).below hb10)
      have HC10 := hide ((unhide HC9).below hb10)
      have HB10 := hide ((unhide HB9).trans (hb10.mono (unhide HB9).size))
      rw [HVR.out]
      clear hb10 HQ9 HP9 HC9 HB9 HMR HVR
      generalize valB 32 raw = bv at *
      go_wp2_with fail
      refine (leaf_any 30 0 g _ (unhide HC10).lt).mono ?_
      rintro e w11 ⟨AX, mx, dx, rfl, hpx, hb11⟩
      have HX11 := hide hpx
      have HQ11 := hide ((unhide HQ10).below hb11)
      have HP11 := hide ((unhide HP10).below hb11)
      have HC11 := hide ((unhide HC10).below hb11)
      have HB11 := hide ((unhide HB10).trans (hb11.mono (unhide HB10).size))
      clear hpx hb11 HQ10 HP10 HC10 HB10
      have hba : Below w11.heap.size w11 (w11.alloc (.cells #[.slice AP mp dp, .slice AX mx dx] 22)) := (Below.refl _ _).alloc (Nat.le_refl _) _
      have HTW2 := hide (HTW.out _ AX mx dx (unhide HC11).lt (unhide HP11) (unhide HX11))
      have HQ12 := hide ((unhide HQ11).below hba)
      have HP12 := hide ((unhide HP11).below hba)
      have HB12 := hide ((unhide HB11).trans (hba.mono (unhide HB11).size))
      clear hba HTW HX11 HQ11 HP11 HC11 HB11
      go_wp2_with fail
      refine (unhide HTW2).mono ?_
      rintro e w13 ⟨AT, mt, dt, rfl, hpt, hb13⟩
      generalize hwx : w11.alloc (.cells #[.slice AP mp dp, .slice AX mx dx] 22) = w12 at *
      have HT13 := hide hpt
      rw [HTE.out] at HT13
      have HQ13 := hide ((unhide HQ12).below hb13)
      have HP13 := hide ((unhide HP12).below hb13)
      have HB13 := hide ((unhide HB12).trans (hb13.mono (unhide HB12).size))
      clear hpt hb13 HQ12 HP12 HB12 HTW2 hwx HTE
      go_wp2_with fail
      refine (HMT.out _ _ _ _ (unhide HT13)).mono ?_
      rintro e w14 ⟨AM, mm, dm, rfl, ⟨hmm, -⟩, hb14⟩
      obtain ⟨hm1, hm2, hm3⟩ := hmm um rfl
      obtain rfl : mm = k + 1 := HGET.out mm hm1
      have HQ14 := hide ((unhide HQ13).below hb14)
      have HP14 := hide ((unhide HP13).below hb14)
      have HB14 := hide ((unhide HB13).trans (hb14.mono (unhide HB13).size))
      obtain ⟨bM, oM, rfl, _, hx0⟩ := at1s (InC.own hm3) (i := k) (u := .string u) HGET2.out
      have hk8 : k ≤ 8191 := by omega
      have HX0 := hide hx0
      clear hb14 hmm hm1 hm2 hm3 hx0 HQ13 HP13 HB13 HT13 HMT HGET HGET2
      simp only [Option.isSome_some]
      go_wp2_with fail
      refine (HAW.out _).mono ?_
      rintro e w15 ⟨rfl, hb15⟩
      have HQ15 := hide ((unhide HQ14).below hb15)
      have HP15 := hide ((unhide HP14).below hb15)
      have HB15 := hide ((unhide HB14).trans (hb15.mono (unhide HB14).size))
      have HX15 := hide (cell_down hb15 (unhide HX0))
      clear hb15
      go_wp2_with fail
      refine (HIRP.out _ (unhide HP15)).mono ?_
      rintro e w16 ⟨rfl, hb16⟩
      have HQ16 := hide ((unhide HQ15).below hb16)
      have HP16 := hide ((unhide HP15).below hb16)
      have HB16 := hide ((unhide HB15).trans (hb16.mono (unhide HB15).size))
      have HX16 := hide (cell_down hb16 (unhide HX15))
      clear hb16
      go_wp2_with fail
      refine (HIRQ.out _ (unhide HQ16)).mono ?_
      rintro e w17 ⟨rfl, hb17⟩
      have HQ17 := hide ((unhide HQ16).below hb17)
      have HP17 := hide ((unhide HP16).below hb17)
      have HB17 := hide ((unhide HB16).trans (hb17.mono (unhide HB16).size))
      have HX17 := hide (cell_down hb17 (unhide HX16))
      clear hb17
      go_wp2_with fail
      refine (HRV.out _).mono ?_
      rintro e w18 ⟨rfl, hb18⟩
      have HQ18 := hide ((unhide HQ17).below hb18)
      have HP18 := hide ((unhide HP17).below hb18)
      have HB18 := hide ((unhide HB17).trans (hb18.mono (unhide HB17).size))
      have HX18 := hide (cell_down hb18 (unhide HX17))
      clear hb18
      have x18 := unhide HX18
      have gk : IntKind.i64.wrap ((k : Int) + 1 - 1) = (k : Int) := by rw [show (k : Int) + 1 - 1 = (k : Int) by omega]; exact IntWalk.i64_in _ (by omega)
      have su : (u.toList == u.toList) = true := beq_self_eq_true _
      have sb : (bv == bv) = true := beq_self_eq_true _
      go_wp2_with fail
      go_ret
      exact ⟨rfl, unhide HB18⟩

end Go.Proofs.YtdifpemohdnolaaGreat
