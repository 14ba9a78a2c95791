/- The fixed example of the statements about layout holds; Balanced, by the program and by the reference. Condition: strconv.ErrRange holds an interface value. -/
import Derived.Test.YtebfnlahiodefaaDoorLayL1
namespace Go.Proofs.YtebfnlahiodefaaDoor
open Go.RowKit M

set_option maxRecDepth 100000 in
set_option maxHeartbeats 3200000 in
theorem awake2_any (w : World) (hr : RangeVar w) :
    Calls Tryd.prog 28 #[] w fun e w' => e = .returned (.bool true) ∧ Below w.heap.size w w' := by
  have HR := Lib.hid hr
  have h1 := fun W hr => lines_any ⟨#[102, 32, 61, 32, 108, 101, 116, 32, 120, 32, 61, 32, 49, 10, 32, 32, 32, 32, 32, 32, 32, 32, 121, 32, 61, 32, 50, 10, 32, 32, 32, 32, 119, 105, 116, 104, 105, 110, 32, 120, 10, 103, 32, 61, 32, 51]⟩ (by decide) W hr
  rw [show ((⟨#[102, 32, 61, 32, 108, 101, 116, 32, 120, 32, 61, 32, 49, 10, 32, 32, 32, 32, 32, 32, 32, 32, 121, 32, 61, 32, 50, 10, 32, 32, 32, 32, 119, 105, 116, 104, 105, 110, 32, 120, 10, 103, 32, 61, 32, 51]⟩ : ByteArray).data.toList) = src1 from rfl] at h1
  have h2 := fun W hr => lines_any ⟨#[32, 102, 32, 61, 32, 49]⟩ (by decide) W hr
  rw [show ((⟨#[32, 102, 32, 61, 32, 49]⟩ : ByteArray).data.toList) = [32, 102, 32, 61, 32, 49] from rfl, src2_ok] at h2
  have hok := src1_ok
  have hln := insL_len (scan src1).1
  have hsl := scan_length src1
  generalize insL (scan src1).1 = R at *
  obtain ⟨out, p, er⟩ := R
  obtain ⟨hk1, hk2⟩ := hok
  injection hk1 with hk3 hk4
  subst hk3 hk4
  have HK := Lib.hid hk2
  have HKI := Lib.hid (fun W A n c h1 h2 => kinds_any W A n c out h1 h2 (by simp only at hln; omega))
  have H1 := Lib.hid h1
  have H2 := Lib.hid h2
  clear hr h1 h2 hk2 hln hsl
  go_enter Tryd.func28, Tryd.ntmps28
  go_wp2_with fail
  refine (H1.out _ HR.out).mono ?_
  rintro e w1 ⟨v1, rfl, ho1, hb1⟩
  obtain ⟨A1, c1, rfl⟩ := owns_form ho1
  have HO1 := Lib.hid ho1
  have HR1 := Lib.hid (HR.out.below hb1)
  have HB1 := Lib.hid hb1
  have hz1 := hb1.size
  clear ho1 hb1
  go_wp2_with fail
  refine (H2.out _ (HR1.out.alloc _)).mono ?_
  rintro e w2 ⟨v2, rfl, ho2, hb2⟩
  obtain ⟨A2, c2, rfl⟩ := owns_form ho2
  have HB2 := Lib.hid hb2
  have hz2 := hb2.size
  simp at hz2
  have HI := Lib.hid (fun o : Obj => InToks.own (((owns_below (owns_alloc_n HO1.out _) hb2)).alloc o) rfl)
  clear ho2 hb2
  go_wp2_with fail
  refine (HKI.out _ _ _ _ rfl (HI.out _)).mono ?_
  rw [HK.out]
  rintro e w3 ⟨rfl, rfl⟩
  go_wp2
  go_ret
  exact ⟨rfl, ((HB1.out.alloc hz1 _).trans (HB2.out.mono (by simp; omega))).alloc (by omega) _⟩

theorem balF_none : ∀ (l : List Tok) (d : Nat) (t : Tok), t.1.kind = 7 → d = 0 → balF d (t :: l) = none := by
  intro l d t h1 h2
  rw [balF_cons, if_neg (by omega), if_pos h1, if_pos h2]

set_option maxRecDepth 100000 in
set_option maxHeartbeats 3200000 in
theorem balanced_any (w : World) (A : Option Addr) (n c : Nat) (ts : List Tok) (hn : n = ts.length) (hA : InToks w A ts) (hm : ts.length ≤ 9223372036854775806) :
    Calls Tryd.prog 34 #[.slice A n c] w fun e w' => e = .returned (.bool (balL ts)) ∧ Below w.heap.size w w' := by
  have HA := Lib.hid hA
  have hR : Hid (balL ts = (balF 0 (ts.drop 0) == some 0)) := rfl
  subst hn
  generalize balL ts = R at *
  clear hA
  go_enter Tryd.func34, Tryd.ntmps34
  go_wp2_with fail
  go_loopw [3, 8] (fun t3 t8 wr => ∃ k d, k ≤ ts.length ∧ d ≤ k ∧ t8 = .int .i64 (k : Nat) ∧ t3 = .int .i64 (d : Nat) ∧ Hid (R = (balF d (ts.drop k) == some 0)) ∧ Hid (Below w.heap.size w wr)) (fun _ t8 _ => ts.length - (intOf t8).toNat)
  case atStart => exact ⟨0, 0, by omega, by omega, rfl, rfl, hR, Below.refl _ _⟩
  case round =>
    obtain ⟨k, d, hk, hd, rfl, rfl, hF, hB⟩ := hrel
    clear hR
    by_cases hlt : k < ts.length
    · obtain ⟨⟨t, a, b⟩, ht⟩ : ∃ t, ts[k]? = some t := ⟨ts[k], List.getElem?_eq_getElem hlt⟩
      have hdrop : ts.drop k = (t, (a, b)) :: ts.drop (k + 1) := by
        rw [List.drop_eq_getElem_cons hlt]
        have : ts[k] = (t, (a, b)) := by
          have := List.getElem?_eq_getElem hlt
          rw [ht] at this; injection this with this; exact this.symm
        rw [this]
      rcases (HA.out.below hB.out) with hnil | ⟨bb, off, rfl, hbb, hcell⟩
      · rw [hnil] at hlt; simp at hlt
      have x0 := hcell k _ ht 0 _ rfl
      have x1 := hcell k _ ht 1 _ rfl
      have x2 := hcell k _ ht 2 _ rfl
      have x3 := hcell k _ ht 3 _ rfl
      have x4 := hcell k _ ht 4 _ rfl
      simp only [Nat.add_zero] at x0
      have HF := hF.out
      rw [hdrop, balF_cons] at HF
      obtain ⟨kd, nu, st, er⟩ := t
      simp only at HF x0 x1 x2
      have hkd : (kd = 5) ∨ (kd ≠ 5 ∧ kd = 7 ∧ d = 0) ∨ (kd ≠ 5 ∧ kd = 7 ∧ d ≠ 0) ∨ (kd ≠ 5 ∧ kd ≠ 7) := by omega
      clear hcell ht hdrop hF
      rcases hkd with h1 | ⟨h1, h2, h3⟩ | ⟨h1, h2, h3⟩ | ⟨h1, h2⟩
      · rw [if_pos h1] at HF
        have g1 : (kd == 5) = true := beq_iff_eq.2 h1
        have HF2 := Lib.hid HF
        clear h1 HF
        go_wp2
        go_roundw
        case rel => exact ⟨k + 1, d + 1, by omega, by omega, by go_num, by go_num, HF2, hB.out.alloc (by have := hB.out.size; omega) _⟩
        case measure => simp [intOf]; omega
      · rw [if_neg h1, if_pos h2, if_pos h3] at HF
        have g1 : (kd == 5) = false := beq_eq_false_iff_ne.2 h1
        have g2 : (kd == 7) = true := beq_iff_eq.2 h2
        have HF2 := Lib.hid HF
        subst h3
        clear h1 h2 HF
        go_wp2
        go_ret
        exact ⟨ret_bool (by rw [HF2.out]; rfl), hB.out.alloc (by have := hB.out.size; omega) _⟩
      · rw [if_neg h1, if_pos h2, if_neg h3] at HF
        have g1 : (kd == 5) = false := beq_eq_false_iff_ne.2 h1
        have g2 : (kd == 7) = true := beq_iff_eq.2 h2
        have HF2 := Lib.hid HF
        obtain ⟨d', rfl⟩ : ∃ d', d = d' + 1 := ⟨d - 1, by omega⟩
        rw [Nat.add_sub_cancel] at HF2
        have g3 : (((d' + 1 : Nat) : Int) == 0) = false := beq_eq_false_iff_ne.2 (by omega)
        have g4 : ((d' : Int) + 1 == 0) = false := beq_eq_false_iff_ne.2 (by omega)
        clear h1 h2 h3 HF
        go_wp2
        go_roundw
        case rel => exact ⟨k + 1, d', by omega, by omega, by go_num, by go_num, HF2, hB.out.alloc (by have := hB.out.size; omega) _⟩
        case measure => simp [intOf]; omega
      · rw [if_neg h1, if_neg h2] at HF
        have g1 : (kd == 5) = false := beq_eq_false_iff_ne.2 h1
        have g2 : (kd == 7) = false := beq_eq_false_iff_ne.2 h2
        have HF2 := Lib.hid HF
        clear h1 h2 HF
        go_wp2
        go_roundw
        case rel => exact ⟨k + 1, d, by omega, by omega, by go_num, rfl, HF2, hB.out.alloc (by have := hB.out.size; omega) _⟩
        case measure => simp [intOf]; omega
    · have hkn : k = ts.length := by omega
      subst hkn
      have HF := hF.out
      rw [List.drop_length] at HF
      have hz : Hid (R = ((d : Int) == 0)) := by
        unfold Hid
        rw [HF]
        show (some d == some 0) = _
        by_cases h : d = 0
        · subst h; rfl
        · have h1 : (some d == some 0) = false := beq_eq_false_iff_ne.2 (by intro q; injection q with q; exact h q)
          have h2 : ((d : Int) == 0) = false := beq_eq_false_iff_ne.2 (by omega)
          rw [h1, h2]
      clear hF HF
      cases hd0 : ((d : Int) == 0)
      · rw [hd0] at hz
        go_wp2
        go_ret
        exact ⟨ret_bool hz.out.symm, hB.out⟩
      · rw [hd0] at hz
        go_wp2
        go_ret
        exact ⟨ret_bool hz.out.symm, hB.out⟩

end Go.Proofs.YtebfnlahiodefaaDoor
