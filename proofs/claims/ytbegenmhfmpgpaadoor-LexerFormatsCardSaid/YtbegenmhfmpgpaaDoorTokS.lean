/- LexerSeparators' walk: valid tokens with separators between them are scanned as these tokens. Conditions: the listed library variables hold what the program's text lays in them. -/
import Derived.Test.YtbegenmhfmpgpaaDoorTokN
import Derived.Test.YtbegenmhfmpgpaaDoorLayX3
import Derived.Test.YtbegenmhfmpgpaaDoorLexX0
import Derived.Test.YtbegenmhfmpgpaaDoorLexA
namespace Go.Proofs.YtbegenmhfmpgpaaDoor
open Go.RowKit M

theorem S_app2 (a b : Bs) : S a ++ S b = S (a ++ b) := by
  apply WideShapes.bytes_inj
  simp
theorem val_num (t : TR) (hv : valT t = true) : t.kind = 2 → 0 ≤ t.num := by
  intro h2
  have hr : rvalT t = true := by rw [rval_eq]; exact hv
  unfold rvalT at hr
  rw [if_neg (by rw [h2]; decide), if_pos h2] at hr
  simp only [Bool.and_eq_true, decide_eq_true_eq] at hr
  exact hr.1

/-- what holds at the head of each round -/
def SepRel (vs : List Tok) (ps : List (TR × Bs)) : Prop :=
  (∀ p ∈ ps, PairOk p) ∧ (∀ p ∈ ps, p.2.length ≤ 21) ∧ ∀ (j : Nat) (p : TR × Bs) (t : Tok), ps[j]? = some p → vs[j]? = some t → p.1 = t.1
theorem sepRel_snoc {vs : List Tok} {ps : List (TR × Bs)} (h : SepRel vs ps) {t : Tok} (ht : vs[ps.length]? = some t) (g : Bs) (hp : PairOk (t.1, g)) (hg : g.length ≤ 21) : SepRel vs (ps ++ [(t.1, g)]) := by
  refine ⟨fun p hm => ?_, fun p hm => ?_, fun j p u hj hu => ?_⟩
  · rcases List.mem_append.1 hm with hm | hm
    · exact h.1 p hm
    · rw [List.mem_singleton] at hm; subst hm; exact hp
  · rcases List.mem_append.1 hm with hm | hm
    · exact h.2.1 p hm
    · rw [List.mem_singleton] at hm; subst hm; exact hg
  · rcases Nat.lt_trichotomy j ps.length with q | q | q
    · rw [List.getElem?_append_left q] at hj; exact h.2.2 j p u hj hu
    · subst q
      rw [ht] at hu; cases hu
      rw [List.getElem?_append_right (Nat.le_refl _)] at hj
      simp at hj; rw [← hj]
    · rw [List.getElem?_eq_none (by simp; omega)] at hj; cases hj
theorem gap_one : GapOk [32] ∧ ∃ d y, whiteB d = true ∧ ([32] : Bs) = d :: y := ⟨gapOk_white _ (by decide), 32, [], by decide, rfl⟩

set_option maxRecDepth 100000 in
set_option maxHeartbeats 6400000 in
theorem lexerSeparators_any (w : World) (A : Option Addr) (n c : Nat) (ts : List Tok) (hn : n = ts.length) (hA : InToks w A ts) (hw : ∀ t ∈ ts, WideTok t) (A2 : Option Addr) (n2 c2 : Nat) (hB : InBytes w A2 n2) (hn2 : n2 ≤ maxLen) (hr : RangeVar w) :
    Calls Tryd.prog 6 #[.slice A n c, .slice A2 n2 c2] w fun e w' => e = .returned (.bool true) ∧ Below w.heap.size w w' := by
  unfold maxLen at hn2
  have HA := Lib.hid hA
  have HW := Lib.hid hw
  have HB := Lib.hid hB
  have HR := Lib.hid hr
  have HN := Lib.hid hn
  have hst : ∀ k, k < 6 → (w.alloc (strBlock sepsL)).cell? ⟨w.heap.size, k, none⟩ = some (.string (S (sepsL.getD k []))) := fun k hk => str_cell (heap_alloc_new w _) k (by rw [sepsL_len]; exact hk)
  have HST := Lib.hid hst
  clear hA hw hB hr hn hst
  go_enter Tryd.func6, Tryd.ntmps6
  go_wp2_with fail
  generalize hw0 : w.alloc (.cells #[.string ⟨#[32]⟩, .string ⟨#[10]⟩, .string ⟨#[9, 13, 10]⟩, .string ⟨#[32, 123, 45, 32, 120, 32, 123, 45, 32, 121, 32, 45, 125, 32, 45, 45, 32, 45, 125, 32]⟩, .string ⟨#[32, 45, 45, 32, 122, 10]⟩, .string ⟨#[32, 123, 45, 45, 125]⟩] 9) = w0
  have HB0 : Hid (Below w.heap.size w w0) := by unfold Hid; rw [← hw0]; exact (Below.refl _ _).alloc (Nat.le_refl _) _
  have HS0 : Hid (∀ k, k < 6 → w0.cell? ⟨w.heap.size, k, none⟩ = some (.string (S (sepsL.getD k [])))) := by unfold Hid; rw [← hw0]; exact HST.out
  have hz0 : w.heap.size < w0.heap.size := by rw [← hw0]; simp
  clear hw0 HST
  refine (someTokens_any w0 A n c ts HN.out (HA.out.below HB0.out) HW.out).mono ?_
  rintro e w1 ⟨v1, us, rfl, ho1, hl1, hwu, hb1⟩
  obtain ⟨A3, c3, rfl⟩ := owns_form ho1
  have HV1 := Lib.hid (valids_any w1 A3 us.length c3 us rfl (InToks.own ho1 rfl) (by omega) (fun t ht => by have := (hwu t ht).str; omega))
  have HB1 : Hid (Below w.heap.size w w1) := HB0.out.trans (hb1.mono (by omega))
  have HS1 : Hid (∀ k, k < 6 → w1.cell? ⟨w.heap.size, k, none⟩ = some (.string (S (sepsL.getD k [])))) := fun k hk => (hb1.cell (p := ⟨w.heap.size, k, none⟩) hz0).trans (HS0.out k hk)
  have hz1 : w.heap.size < w1.heap.size := Nat.lt_of_lt_of_le hz0 hb1.size
  have HVS : Hid (∀ t ∈ valL us, valT t.1 = true ∧ t.1.num ≤ 9223372036854775807) := fun t ht => by
    have := List.mem_filter.1 ht
    exact ⟨by simpa using this.2, (hwu t this.1).num1⟩
  have hlv : (valL us).length ≤ 40 := Nat.le_trans (valL_len us) hl1
  clear ho1 hb1 hwu hl1 HB0 HS0 hz0
  go_wp2_with fail
  refine HV1.out.mono ?_
  rintro e w2 ⟨v2, rfl, ho2, hb2⟩
  generalize valL us = vs at *
  obtain ⟨A4, c4, rfl⟩ := owns_form ho2
  have HI2 := Lib.hid (InToks.own ho2 rfl)
  have HB2 : Hid (Below w.heap.size w w2) := HB1.out.trans (hb2.mono (by omega))
  have HS2 : Hid (∀ k, k < 6 → w2.cell? ⟨w.heap.size, k, none⟩ = some (.string (S (sepsL.getD k [])))) := fun k hk => (hb2.cell (p := ⟨w.heap.size, k, none⟩) hz1).trans (HS1.out k hk)
  have hz2 : w.heap.size < w2.heap.size := Nat.lt_of_lt_of_le hz1 hb2.size
  clear ho2 hb2 HV1 HB1 HS1 hz1
  go_wp2_with fail
  go_loopw [7, 8] (fun s i wr => ∃ (ps : List (TR × Bs)) (q : ByteArray), i = .int .i64 ps.length ∧ ps.length ≤ vs.length ∧ s = .string q ∧ Hid (q = S (srcP ps)) ∧ q.size ≤ 85 * ps.length ∧ Hid (SepRel vs ps) ∧ Hid (Below w2.heap.size w2 wr)) (fun _ i _ => 40 - (intOf i).toNat)
  case atStart => exact ⟨[], ⟨#[]⟩, rfl, by simp, rfl, rfl, by decide, ⟨fun p hp => by simp at hp, fun p hp => by simp at hp, fun j p t hj => by simp at hj⟩, Below.refl _ _⟩
  case round =>
    obtain ⟨ps, q, rfl, hk, rfl, hq, hqs, hP, hBW⟩ := hrel
    by_cases hlt : ps.length < vs.length
    · obtain ⟨⟨t, a, b⟩, ht⟩ : ∃ t, vs[ps.length]? = some t := ⟨vs[ps.length], List.getElem?_eq_getElem hlt⟩
      obtain ⟨hvt, hnt⟩ := HVS.out _ (List.mem_of_getElem? ht)
      simp only at hvt hnt
      have hHI := HI2.out.below hBW.out
      rcases hHI with hnil | ⟨bb, off, rfl, hbb, hcell⟩
      · rw [hnil] at hlt; simp at hlt
      have x0 := hcell _ _ ht 0 _ rfl
      have x1 := hcell _ _ ht 1 _ rfl
      have x2 := hcell _ _ ht 2 _ rfl
      have x3 := hcell _ _ ht 3 _ rfl
      have x4 := hcell _ _ ht 4 _ rfl
      simp only [Nat.add_zero] at x0
      obtain ⟨htx, htl⟩ := text_ok t hvt hnt
      have HT := Lib.hid ht
      have HTX : Hid (∀ W, Calls Tryd.prog 20 #[tkV t a b] W fun e w' => e = .returned (.string (S (textB t))) ∧ Below W.heap.size W w') := fun W => rtext_any t a b (val_num t hvt) hnt W
      have HPK : Hid (∀ g : Bs, (GapOk g ∧ ∃ d y, whiteB d = true ∧ g = d :: y) → PairOk (t, g)) := fun g hg => ⟨hvt, hnt, hg.1, hg.2⟩
      have hts : (S (textB t)).size ≤ 64 := htl
      clear hcell ht hvt hnt htx htl
      go_wp2_with fail
      refine (HTX.out _).mono ?_
      rintro e w3 ⟨rfl, hb3⟩
      have HB3 : Hid (Below w2.heap.size w2 w3) := hBW.out.trans (hb3.mono hBW.out.size)
      have HBW3 : Hid (Below w.heap.size w w3) := HB2.out.trans (HB3.out.mono (by omega))
      clear x0 x1 x2 x3 x4 hb3 HTX
      obtain ⟨T, hT⟩ : ∃ T, S (textB t) = T := ⟨_, rfl⟩
      have HTT := Lib.hid hT
      rw [hT] at hts ⊢
      clear hT
      have hz3 : (q ++ T).size = q.size + T.size := ByteArray.size_append
      by_cases hs : ps.length < n2
      · rcases HB.out with h0 | ⟨b2, off2, rfl, hb2, hcs⟩
        · omega
        obtain ⟨z, hz0, hz1, hc⟩ := hcs ps.length hs
        have hc3 : w3.cell? ⟨b2, off2 + ps.length, none⟩ = some (.int .u8 z) := (HBW3.out.cell (p := ⟨b2, off2 + ps.length, none⟩) hb2).trans hc
        obtain ⟨r, hr⟩ : ∃ r : Nat, z % 6 = (r : Int) := ⟨(z % 6).toNat, by omega⟩
        have hr6 : r < 6 := by omega
        have hp := sepsL_le ⟨r, hr6⟩
        simp only at hp
        have hsc : w3.cell? ⟨w.heap.size, r, none⟩ = some (.string (S (sepsL.getD r []))) := (HB3.out.cell (p := ⟨w.heap.size, r, none⟩) hz2).trans (HS2.out r hr6)
        have hx : (S (sepsL.getD r [])).size ≤ 20 := hp
        have HGAP := Lib.hid (sepsL_ok r hr6)
        obtain ⟨X, hX⟩ : ∃ X, S (sepsL.getD r []) = X := ⟨_, rfl⟩
        have HXX := Lib.hid hX
        rw [hX] at hsc hx
        have hz4 : (q ++ T ++ X).size = q.size + T.size + X.size := by rw [ByteArray.size_append, hz3]
        clear hcs hp hc hX
        go_wp2
        go_roundw
        case rel =>
          refine ⟨ps ++ [(t, sepsL.getD r [] ++ [32])], q ++ T ++ X ++ ⟨#[32]⟩, by simp, by simp; omega, rfl, ?_, ?_, ?_, HB3⟩
          · unfold Hid
            rw [src_snoc, hq.out, ← HTT.out, ← HXX.out, show (⟨#[32]⟩ : ByteArray) = S [32] from rfl, S_app2, S_app2, S_app2]
            simp [segP, List.append_assoc]
          · rw [ByteArray.size_append, hz4, show (⟨#[32]⟩ : ByteArray).size = 1 from rfl]; simp; omega
          · exact sepRel_snoc hP.out HT.out _ (HPK.out _ HGAP.out) (by rw [List.length_append, List.length_singleton]; have : (sepsL.getD r []).length ≤ 20 := sepsL_le ⟨r, hr6⟩; omega)
        case measure => simp [intOf]; omega
      · go_wp2
        go_roundw
        case rel =>
          refine ⟨ps ++ [(t, [32])], q ++ T ++ ⟨#[32]⟩, by simp, by simp; omega, rfl, ?_, ?_, ?_, HB3⟩
          · unfold Hid
            rw [src_snoc, hq.out, ← HTT.out, show (⟨#[32]⟩ : ByteArray) = S [32] from rfl, S_app2, S_app2]
            simp [segP, List.append_assoc]
          · rw [ByteArray.size_append, hz3, show (⟨#[32]⟩ : ByteArray).size = 1 from rfl]; simp; omega
          · exact sepRel_snoc hP.out HT.out _ (HPK.out _ gap_one) (by simp)
        case measure => simp [intOf]; omega
    · have hkk : ps.length = vs.length := by omega
      obtain ⟨os, hos, hol, hosame⟩ := scan_pairs ps hP.out.1 hP.out.2.1 (by omega)
      have HSC := Lib.hid (fun W h => scan_any q (by unfold maxLen; omega) W h)
      have HSR : Hid (scan q.data.toList = (os, (0, 0), 0)) := by
        unfold Hid; rw [hq.out, S_toList]; exact hos
      have HBW3 : Hid (Below w.heap.size w _) := HB2.out.trans (hBW.out.mono (by omega))
      have HRW : Hid (RangeVar _) := HR.out.below HBW3.out
      have HSAME : Hid (SameT os vs) := by
        refine ⟨by omega, fun k t u h1 h2 => ?_⟩
        obtain ⟨p, hp⟩ : ∃ p, ps[k]? = some p := ⟨ps[k]'(by have := (List.getElem?_eq_some_iff.1 h2).1; omega), List.getElem?_eq_getElem _⟩
        have e1 := hosame k t p h1 hp
        have e2 := hP.out.2.2 k p u hp h2
        rw [e2] at e1; exact e1
      have hol40 : os.length ≤ 40 := by omega
      clear hos hol hosame
      go_wp2_with fail
      have HSC' := HSC.out _ HRW.out
      rw [HSR.out] at HSC'
      refine HSC'.mono ?_
      clear HSC' HSC
      rintro e w4 ⟨v4, rfl, ho4, hb4⟩
      obtain ⟨A5, c5, rfl⟩ := owns_form ho4
      simp only at ho4 ⊢
      have HI4 := Lib.hid (InToks.own ho4 rfl)
      have HB4 : Hid (Below w.heap.size w w4) := HBW3.out.trans (hb4.mono HBW3.out.size)
      have HI24 : Hid (InToks w4 A4 vs) := (HI2.out.below hBW.out).below hb4
      have HR4 : Hid (RangeVar w4) := HRW.out.below hb4
      clear ho4 hb4
      go_wp2_with fail
      refine (awake_any _ (HR4.out.alloc _)).mono ?_
      rintro e w5 ⟨rfl, hb5⟩
      have HB5 : Hid (Below w.heap.size w w5) := (HB4.out.alloc HB4.out.size _).trans (hb5.mono (by have := HB4.out.size; simp; omega))
      have HI5 : Hid (InToks w5 A5 os) := (HI4.out.alloc _).below hb5
      have HI25 : Hid (InToks w5 A4 vs) := (HI24.out.alloc _).below hb5
      clear hb5
      go_wp2_with fail
      refine (same_any os vs HSAME.out (by omega) A5 A4 os.length vs.length c5 c4 _ rfl rfl HI5.out HI25.out).mono ?_
      rintro e w6 ⟨rfl, hb6⟩
      have HB6 : Hid (Below w.heap.size w w6) := HB5.out.trans (hb6.mono HB5.out.size)
      clear hb6
      go_wp2
      go_ret
      exact ⟨rfl, HB6.out⟩

end Go.Proofs.YtbegenmhfmpgpaaDoor
