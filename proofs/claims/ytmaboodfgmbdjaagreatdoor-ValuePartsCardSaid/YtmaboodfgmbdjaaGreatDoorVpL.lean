/- ValueParts returns true. Conditions: a slice of numbers. -/
import Derived.Test.YtmaboodfgmbdjaaGreatDoorVpP
import Derived.Test.YtmaboodfgmbdjaaGreatDoorVgC
import Derived.Test.YtmaboodfgmbdjaaGreatDoorEvD
namespace Go.Proofs.YtmaboodfgmbdjaaGreatDoor
open Go Go.RowKit VM

theorem vawake_run : Ev.valOf (Ev.runC Tryz.prog 100000 .leaf 11 []) = some (.bool true) := by kernel_rfl
theorem vawake_any (w : World) : Calls Tryz.prog 11 #[] w fun e w' => e = .returned (.bool true) ∧ Below w.heap.size w w' :=
  Ev.calls_of_run (P := Tryz.prog) (by kernel_rfl) (args := []) rfl vawake_run w
/-- a compound value and its parts -/
structure CompOf (k : UInt8) (ps : List ByteArray) (s : ByteArray) : Prop where
  eq : s = encB k ps
  val : valB 32 s = true
  tree : treeB s = .comp k (ps.map treeB)
  parts : ((ps.map treeB).map fun v => toB (enc v)) = ps
theorem comp_of {k : UInt8} (hk : isComp k = true) {ps : List ByteArray} (h : ∀ s ∈ ps, valB 3 s = true) (hp : parted (ord 3) k (ps.map treeB) = true) (hz : 3 + totB ps ≤ 131072) : CompOf k ps (mkP k ps) := by
  have h1 := mkP_good (d := 3) (by decide) h (k := k) hz
  rw [h1]
  have h2 := parts_encB (d := 3) (by decide) h hk hp hz
  exact ⟨rfl, valB_le (by decide) (enc_comp_val (d := 3) (by decide) h hk hp hz).1, h2.1, h2.2⟩
theorem tot8 {l : List ByteArray} (hv : ∀ s ∈ l, ValOK 3 s) (hl : l.length ≤ 8) : totB l ≤ 2000 := by
  have h1 := totB_ok hv
  have h2 : l.length * (10 * 4 ^ (3 - 1)) ≤ 8 * (10 * 4 ^ (3 - 1)) := Nat.mul_le_mul_right _ hl
  have h3 : 8 * (10 * 4 ^ (3 - 1)) = 1280 := by decide
  omega
theorem comp_seq {l : List ByteArray} (hv : ∀ s ∈ l, ValOK 3 s) (hl : l.length ≤ 8) : CompOf 4 l (mkP 4 l) := by
  refine comp_of (by decide) (fun s hs => (hv s hs).1) ?_ (by have := tot8 hv hl; omega)
  unfold parted countOK ascOK
  rw [headL_ne (by decide) (by decide) (by decide)]; simp
theorem comp_set {l : List ByteArray} (hv : ∀ s ∈ l, ValOK 3 s) (hl : l.length ≤ 8) : CompOf 5 (sortM l) (mkP 5 (sortM l)) := by
  have hb : ∀ s ∈ sortM l, ValOK 3 s := fun s hs => hv s (sortM_mem.1 hs)
  refine comp_of (by decide) (fun s hs => (hb s hs).1) ?_ (by have := tot8 hb (by have := sortM_len l; omega); omega)
  exact parted_set (by decide) (fun s hs => (hb s hs).1) (sortM_asc l)
theorem comp_dot {l : List ByteArray} (hv : ∀ s ∈ l, ValOK 3 s) (hl : l.length ≤ 8) (k : Nat) : CompOf 7 (nameB k :: l) (mkP 7 (nameB k :: l)) := by
  refine comp_of (by decide) ?_ ?_ (by have := tot8 hv hl; rw [totB_cons, nameB_size]; omega)
  · intro s hs
    rcases List.mem_cons.1 hs with rfl | hs
    · exact (val_name (by decide) k).1
    · exact (hv s hs).1
  · rw [List.map_cons, tree_name]
    unfold parted countOK ascOK headL headOK
    simp; omega
theorem comp_first {k : UInt8} {ps : List ByteArray} {s : ByteArray} (h : CompOf k ps s) : (bs s)[0]? = some k := by
  rw [h.eq]; rfl
theorem comp_size {k : UInt8} {ps : List ByteArray} {s : ByteArray} (h : CompOf k ps s) : s.size ≤ 131072 := (valB_iff.1 h.val).1
/-- Parts of a compound value -/
theorem pparts_of {k : UInt8} {ps : List ByteArray} {s : ByteArray} (h : CompOf k ps s) (w : World) :
    Calls Tryz.prog 35 #[.string s] w fun e w' => ∃ B cb n, e = .returned (.slice B n cb) ∧ n = ps.length ∧ w'.ownsRow w.heap.size 27 1 (.slice B n cb) n (ps.map Value.string) ∧ Below w.heap.size w w' := by
  have := pparts_comp s k (ps.map treeB) h.val h.tree w
  rw [h.parts, List.length_map] at this
  exact this
theorem pkind_of {k : UInt8} {ps : List ByteArray} {s : ByteArray} (h : CompOf k ps s) (w : World) :
    Calls Tryz.prog 33 #[.string s] w fun e w' => e = .returned (.int .i64 (k.toNat : Int)) ∧ Below w.heap.size w w' :=
  pkind_any s k (by have := comp_size h; omega) h.val (comp_first h) w
theorem eqS_self (a : List ByteArray) (A B : Option Addr) (n m ca cb : Nat) (w : World) (hn : n = a.length) (hm : m = a.length) (hn1 : n ≤ 9223372036854775807) (hm1 : m ≤ 9223372036854775807) (hr : InC w A (a.map Value.string)) (hr2 : InC w B (a.map Value.string)) :
    Calls Tryz.prog 34 #[.slice A n ca, .slice B m cb] w fun e w' => e = .returned (.bool true) ∧ Below w.heap.size w w' := by
  have := eqS_any a a A B n m ca cb w hn hm hn1 hm1 hr hr2
  rw [show eqL a a = true from decide_eq_true rfl] at this
  exact this
set_option linter.unusedSimpArgs false in
set_option maxRecDepth 100000 in
set_option maxHeartbeats 12800000 in
theorem valueParts_any (a0 : Option Addr) (n0 c0 : Nat) (z : Int) (h0 : n0 ≤ maxLen) (w : World) (hI0 : InInts w a0 n0) :
    Calls Tryz.prog 5 #[.slice a0 n0 c0, .int .i64 z] w fun e w' => e = .returned (.bool true) ∧ Below w.heap.size w w' := by
  have HVS := hide (fun w g A n c => values_st 3 (by decide) (value_st 3 (by decide) (by decide)) 3 8 8 rfl rfl (by decide) (by decide) w g A n c)
  have HN0 := Lib.hid h0
  have HC0 := hide (CSt.start (c := c0) hI0)
  have HB0 : Hid (Below w.heap.size w (w.alloc (.cells #[.slice a0 n0 c0, .int .i64 0] 53))) := hide ((Below.refl _ _).alloc (Nat.le_refl _) _)
  have HMOD := Lib.hid (fun w => mod_any z 1000 (by decide) (by decide) w)
  have hmod := modK_lt z 1000 (by decide)
  generalize modK z 1000 = kk at *
  clear hI0 h0
  go_enter Tryz.func5, Tryz.ntmps5
  go_wp2_with fail
  refine (new_cho w a0 n0 c0).mono ?_
  rintro e w1 ⟨rfl, rfl⟩
  go_wp2_with fail
  refine ((unhide HVS) _ w.heap.size a0 n0 c0 (unhide HC0) HN0.out).mono ?_
  rintro e w2 ⟨Bl, cl, L, l, rfl, hL, hL8, hv, hO, hC2, hG2⟩
  have HL := Lib.hid hL
  have HB2 := hide (below_grown (unhide HB0) hG2 (Nat.le_refl _) (Nat.le_refl _))
  have HL2 := hide (owns_base hO (Nat.zero_le _))
  have hl8 : l.length ≤ 8 := by omega
  have HQ1 := Lib.hid (comp_seq hv hl8)
  have HQ2 := Lib.hid (comp_set hv hl8)
  have HQ3 := Lib.hid (comp_dot hv hl8 kk)
  have hsz := fun s (h : s ∈ l) => (show s.size ≤ 281474976710656 from by have := (hv s h).size (by decide); omega)
  have HSEQ := Lib.hid (fun w hr => pseq_any l Bl L cl w hL (by omega) hsz hr)
  have HSET := Lib.hid (fun w hr => pset_any l Bl L cl w hL (by omega) hsz hr)
  have HDOT := Lib.hid (fun w hr => pdot_any kk (by omega) l Bl L cl w hL (by omega) hsz hr)
  have HSRT := Lib.hid (fun w hr => rsort_any l Bl L cl w hL (by omega) hsz hr)
  generalize mkP 4 l = s1 at *
  generalize mkP 5 (sortM l) = s2 at *
  generalize mkP 7 (nameB kk :: l) = s3 at *
  have HSO := Lib.hid (sortM_len l)
  generalize sortM l = so at *
  have hso : so.length ≤ 8 := by have := HSO.out; omega
  clear hL hv hO hC2 hG2 HC0 HB0 hsz HSO
  go_wp2_with fail
  refine (HMOD.out _).mono ?_
  rintro e w3 ⟨rfl, rfl⟩
  go_wp2_with fail
  refine (HSEQ.out _ (InC.own (unhide HL2))).mono ?_
  rintro e w4 ⟨rfl, hb4⟩
  have HB4 := hide ((unhide HB2).trans (hb4.mono (unhide HB2).size))
  have HL4 := hide (owns_below (unhide HL2) hb4)
  clear hb4 HB2 HL2
  go_wp2_with fail
  refine (HSET.out _ (InC.own (unhide HL4))).mono ?_
  rintro e w5 ⟨rfl, hb5⟩
  have HB5 := hide ((unhide HB4).trans (hb5.mono (unhide HB4).size))
  have HL5 := hide (owns_below (unhide HL4) hb5)
  clear hb5 HB4 HL4
  go_wp2_with fail
  refine (HDOT.out _ (InC.own (unhide HL5))).mono ?_
  rintro e w6 ⟨rfl, hb6⟩
  have HB6 := hide ((unhide HB5).trans (hb6.mono (unhide HB5).size))
  have HL6 := hide (owns_below (unhide HL5) hb6)
  clear hb6 HB5 HL5
  go_wp2_with fail
  refine (vawake_any _).mono ?_
  rintro e w7 ⟨rfl, hb7⟩
  have HB7 := hide ((unhide HB6).trans (hb7.mono (unhide HB6).size))
  have HL7 := hide (owns_below (unhide HL6) hb7)
  clear hb7 HB6 HL6
  go_wp2_with fail
  refine (pkind_of HQ1.out _).mono ?_
  rintro e w8 ⟨rfl, hb8⟩
  have HB8 := hide ((unhide HB7).trans (hb8.mono (unhide HB7).size))
  have HL8 := hide (owns_below (unhide HL7) hb8)
  clear hb8 HB7 HL7
  go_wp2_with fail
  refine (pparts_of HQ1.out _).mono ?_
  rintro e w9 ⟨BR9, cR9, nR9, rfl, hm9, hR9, hb9⟩
  have HB9 := hide ((unhide HB8).trans (hb9.mono (unhide HB8).size))
  have HL9 := hide (owns_below (unhide HL8) hb9)
  have HR9 := hide hR9
  have HM9 := Lib.hid hm9
  have hmb9 : nR9 ≤ 9 := by have hq := hm9; (try simp only [List.length_cons] at hq); omega
  clear hb9 HB8 HL8 hR9 hm9
  go_wp2_with fail
  refine (eqS_self l _ Bl _ L _ cl _ HM9.out HL.out (by omega) (by omega) (InC.own (unhide HR9)) (InC.own (unhide HL9))).mono ?_
  rintro e w10 ⟨rfl, hb10⟩
  have HB10 := hide ((unhide HB9).trans (hb10.mono (unhide HB9).size))
  have HL10 := hide (owns_below (unhide HL9) hb10)
  have HR10 := hide (owns_below (unhide HR9) hb10)
  clear hb10 HB9 HL9 HR9
  go_wp2_with fail
  refine (pparts_of HQ2.out _).mono ?_
  rintro e w11 ⟨BR11, cR11, nR11, rfl, hm11, hR11, hb11⟩
  have HB11 := hide ((unhide HB10).trans (hb11.mono (unhide HB10).size))
  have HL11 := hide (owns_below (unhide HL10) hb11)
  have HR11 := hide hR11
  have HM11 := Lib.hid hm11
  have hmb11 : nR11 ≤ 9 := by have hq := hm11; (try simp only [List.length_cons] at hq); omega
  clear hb11 HB10 HL10 HR10 hR11 hm11
  go_wp2_with fail
  refine (HSRT.out _ (InC.own (unhide HL11))).mono ?_
  rintro e w12 ⟨BS, cS, nS, rfl, hm12, hR12, hb12⟩
  have HB12 := hide ((unhide HB11).trans (hb12.mono (unhide HB11).size))
  have HL12 := hide (owns_below (unhide HL11) hb12)
  have HR12 := hide (owns_below (unhide HR11) hb12)
  have HRS12 := hide hR12
  have HMS := Lib.hid hm12
  have hms : nS ≤ 8 := by omega
  clear hb12 HB11 HL11 HR11 hR12 hm12
  go_wp2_with fail
  refine (eqS_self so _ _ _ _ _ _ _ HM11.out HMS.out (by omega) (by omega) (InC.own (unhide HR12)) (InC.own (unhide HRS12))).mono ?_
  rintro e w13 ⟨rfl, hb13⟩
  have HB13 := hide ((unhide HB12).trans (hb13.mono (unhide HB12).size))
  have HL13 := hide (owns_below (unhide HL12) hb13)
  have HRS13 := hide (owns_below (unhide HRS12) hb13)
  have HR13 := hide (owns_below (unhide HR12) hb13)
  clear hb13 HB12 HL12 HRS12 HR12
  go_wp2_with fail
  refine (pkind_of HQ2.out _).mono ?_
  rintro e w14 ⟨rfl, hb14⟩
  have HB14 := hide ((unhide HB13).trans (hb14.mono (unhide HB13).size))
  have HL14 := hide (owns_below (unhide HL13) hb14)
  have HRS14 := hide (owns_below (unhide HRS13) hb14)
  have HR14 := hide (owns_below (unhide HR13) hb14)
  clear hb14 HB13 HL13 HRS13 HR13
  go_wp2_with fail
  refine (pparts_of HQ3.out _).mono ?_
  rintro e w15 ⟨BR15, cR15, nR15, rfl, hm15, hR15, hb15⟩
  have HB15 := hide ((unhide HB14).trans (hb15.mono (unhide HB14).size))
  have HL15 := hide (owns_below (unhide HL14) hb15)
  have HR15 := hide hR15
  have HM15 := Lib.hid hm15
  have hmb15 : nR15 ≤ 9 := by have hq := hm15; (try simp only [List.length_cons] at hq); omega
  clear hb15 HB14 HL14 HRS14 HR14 hR15 hm15
  go_wp2_with fail
  obtain ⟨b5, o5, hA5, hb5, hc5⟩ := at1s (InC.own (unhide HR15)) (i := 0) (u := .string (nameB kk)) rfl
  subst hA5
  have hn15 : nR15 = L + 1 := by rw [HM15.out, HL.out, List.length_cons]
  subst hn15
  refine (pkind_of HQ3.out _).mono ?_
  rintro e w16 ⟨rfl, hb16⟩
  have HB16 := hide ((unhide HB15).trans (hb16.mono (unhide HB15).size))
  have HL16 := hide (owns_below (unhide HL15) hb16)
  have HR16 := hide (owns_below (unhide HR15) hb16)
  have k16 : w16.cell? ⟨b5, o5 + 0, none⟩ = some (.string (nameB kk)) := (hb16.cell (p := ⟨b5, o5 + 0, none⟩) hb5).trans hc5
  rw [Nat.add_zero] at k16
  clear hb16 HB15 HL15 HR15 hb5 hc5
  have HNM := Lib.hid (fun w => pnumber_name kk (by omega) w)
  generalize nameB kk = s0 at *
  go_wp2_with fail
  refine (HNM.out _).mono ?_
  rintro e w17 ⟨rfl, hb17⟩
  have HB17 := hide ((unhide HB16).trans (hb17.mono (unhide HB16).size))
  have HL17 := hide (owns_below (unhide HL16) hb17)
  have HR17 := hide (owns_below (unhide HR16) hb17)
  clear hb17 HB16 HL16 HR16
  have hc15 : L + 1 ≤ cR15 := by
    rcases (unhide HR17).2 with ⟨q, _⟩ | ⟨g', c', cur, q, _, _, h, _⟩
    · cases q
    · injection q with _ _ q; omega
  have HI17 := hide (InC.cut (cap := cR15) (k := 1) (z := 1) (InC.own (unhide HR17)) (fun e => by
    have : l.length = 0 := by have := HL.out; omega
    rw [List.eq_nil_of_length_eq_zero this]; rfl))
  have HI18 : Hid (InC w17 (if cR15 = 1 then some ⟨b5, o5, none⟩ else some ⟨b5, o5 + 1, none⟩) (l.map Value.string)) := hide (unhide HI17)
  clear HI17 hc15
  by_cases hq : cR15 = 1
  · subst hq
    have HJ : Hid (InC w17 (some ⟨b5, o5, none⟩) (l.map Value.string)) := hide (by have := unhide HI18; rwa [if_pos rfl] at this)
    clear HI18
    have HEQ := Lib.hid (fun w hr hr2 => eqS_self l (some ⟨b5, o5, none⟩) Bl L L 0 cl w HL.out HL.out (by omega) (by omega) hr hr2)
    clear HR17
    go_wp2_with fail
    refine (HEQ.out _ (unhide HJ) (InC.own (unhide HL17))).mono ?_
    rintro e w18 ⟨rfl, hb18⟩
    have HB18 := hide ((unhide HB17).trans (hb18.mono (unhide HB17).size))
    clear hb18 HB17 HL17
    go_wp2_with fail
    go_ret
    exact ⟨rfl, unhide HB18⟩
  · have HJ : Hid (InC w17 (some ⟨b5, o5 + 1, none⟩) (l.map Value.string)) := hide (by have := unhide HI18; rwa [if_neg hq] at this)
    clear HI18
    have HEQ := Lib.hid (fun w hr hr2 => eqS_self l (some ⟨b5, o5 + 1, none⟩) Bl L L (cR15 - 1) cl w HL.out HL.out (by omega) (by omega) hr hr2)
    clear HR17
    go_wp2_with fail
    refine (HEQ.out _ (unhide HJ) (InC.own (unhide HL17))).mono ?_
    rintro e w18 ⟨rfl, hb18⟩
    have HB18 := hide ((unhide HB17).trans (hb18.mono (unhide HB17).size))
    clear hb18 HB17 HL17
    go_wp2_with fail
    go_ret
    exact ⟨rfl, unhide HB18⟩

end Go.Proofs.YtmaboodfgmbdjaaGreatDoor
