/- The reference's Format: the texts of valid tokens with spaces between them. Condition: at most 1000 tokens that lie in memory. -/
import Derived.Test.YtbegenmhfmpgpaaDoorTokF
import Derived.Test.YtbegenmhfmpgpaaDoorTokS
namespace Go.Proofs.YtbegenmhfmpgpaaDoor
open Go.RowKit M

set_option maxRecDepth 100000 in
set_option maxHeartbeats 6400000 in
theorem rformat_any (w : World) (A : Option Addr) (n c : Nat) (ts : List Tok) (hn : n = ts.length) (hA : InToks w A ts) (hm : ts.length ≤ 1000) (hw : ∀ t ∈ ts, WideTok t) :
    Calls Tryd.prog 13 #[.slice A n c] w (FmtPost ts w) := by
  have HA := Lib.hid hA
  have HW := Lib.hid hw
  subst hn
  clear hA hw
  go_enter Tryd.func13, Tryd.ntmps13
  go_wp2_with fail
  go_loopw [3, 4] (fun s i wr => ∃ (k : Nat) (q : ByteArray), i = .int .i64 k ∧ s = .string q ∧ Hid (q = S (fmtB (trs (ts.take k)))) ∧ q.size ≤ 85 * k ∧ k ≤ ts.length ∧ Hid (∀ u ∈ ts.take k, valT u.1 = true) ∧ Hid (Below w.heap.size w wr)) (fun _ i _ => ts.length - (intOf i).toNat)
  case atStart => exact ⟨0, ⟨#[]⟩, rfl, rfl, rfl, by decide, by omega, fun u hu => by simp at hu, Below.refl _ _⟩
  case round =>
    obtain ⟨k, q, rfl, rfl, hq, hqs, hk, hV, hB⟩ := hrel
    by_cases hlt : k < ts.length
    · obtain ⟨⟨t, a, b⟩, ht⟩ : ∃ t, ts[k]? = some t := ⟨ts[k], List.getElem?_eq_getElem hlt⟩
      have hmem := List.mem_of_getElem? ht
      have hwt := HW.out _ hmem
      have hn1 : t.num ≤ 9223372036854775807 := hwt.num1
      have hst : t.str.length ≤ 140737488355328 := by have := hwt.str; simp only at this; omega
      have HT := Lib.hid ht
      have HVA : Hid (∀ W, Calls Tryd.prog 11 #[tkV t a b] W fun e w' => e = .returned (.bool (valT t)) ∧ Below W.heap.size W w') := fun W => rvalid_any t a b hst W
      have hHI := HA.out.below hB.out
      rcases hHI with hnil | ⟨bb, off, rfl, hbb, hcell⟩
      · rw [hnil] at hlt; simp at hlt
      have x0 := hcell _ _ ht 0 _ rfl
      have x1 := hcell _ _ ht 1 _ rfl
      have x2 := hcell _ _ ht 2 _ rfl
      have x3 := hcell _ _ ht 3 _ rfl
      have x4 := hcell _ _ ht 4 _ rfl
      simp only [Nat.add_zero] at x0
      clear hcell ht hwt hst
      go_wp2_with fail
      refine (HVA.out _).mono ?_
      rintro e w1 ⟨rfl, hb1⟩
      have y0 := (hb1.cell hbb).trans x0
      have y1 := (hb1.cell (p := ⟨bb, off + k * 5 + 1, none⟩) hbb).trans x1
      have y2 := (hb1.cell (p := ⟨bb, off + k * 5 + 2, none⟩) hbb).trans x2
      have y3 := (hb1.cell (p := ⟨bb, off + k * 5 + 3, none⟩) hbb).trans x3
      have y4 := (hb1.cell (p := ⟨bb, off + k * 5 + 4, none⟩) hbb).trans x4
      have HB1 : Hid (Below w.heap.size w w1) := hB.out.trans (hb1.mono hB.out.size)
      clear hb1 x0 x1 x2 x3 x4 hB HVA
      cases hv : valT t
      · have HBAD : Hid (fmtL (trs ts) = []) := fmtL_bad (List.mem_of_getElem? HT.out) hv
        clear hv y0 y1 y2 y3 y4
        go_wp2
        go_ret
        exact ⟨by rw [HBAD.out]; rfl, HB1.out⟩
      · have HTX : Hid (∀ W, Calls Tryd.prog 20 #[tkV t a b] W fun e w' => e = .returned (.string (S (textB t))) ∧ Below W.heap.size W w') := fun W => rtext_any t a b (val_num t hv) hn1 W
        have HVV : Hid (∀ u ∈ ts.take (k + 1), valT u.1 = true) := take_mem hV.out HT.out hv
        have htl := (text_ok t hv hn1).2
        have hts : (S (textB t)).size ≤ 64 := htl
        have HSTEP := Lib.hid (fmt_step ts k _ HT.out)
        clear hv htl hn1 hV
        by_cases hk0 : k = 0
        · subst hk0
          have hq0 : q = ⟨#[]⟩ := hq.out
          subst hq0
          simp only [Nat.zero_mul, Nat.add_zero] at y0 y1 y2 y3 y4
          go_wp2_with fail
          refine (HTX.out _).mono ?_
          rintro e w2 ⟨rfl, hb2⟩
          have HB2 : Hid (Below w.heap.size w w2) := HB1.out.trans (hb2.mono HB1.out.size)
          clear hb2 y0 y1 y2 y3 y4 HTX
          go_wp2
          go_roundw
          case rel =>
            refine ⟨0 + 1, ⟨#[]⟩ ++ S (textB t), by go_num, rfl, ?_, by rw [ByteArray.size_append, show (⟨#[]⟩ : ByteArray).size = 0 from rfl]; omega, by omega, HVV, HB2⟩
            unfold Hid
            rw [HSTEP.out]
            first | rw [if_pos rfl] | rw [if_pos trivial]
            rw [List.nil_append, show (⟨#[]⟩ : ByteArray) = S [] from rfl, S_app2, List.nil_append]
          case measure => simp [intOf]; omega
        · have hk1 : 0 < k := by omega
          have hz3 : (q ++ (⟨#[32]⟩ : ByteArray)).size = q.size + 1 := by rw [ByteArray.size_append]; rfl
          go_wp2_with fail
          refine (HTX.out _).mono ?_
          rintro e w2 ⟨rfl, hb2⟩
          have HB2 : Hid (Below w.heap.size w w2) := HB1.out.trans (hb2.mono HB1.out.size)
          clear hb2 y0 y1 y2 y3 y4 HTX
          go_wp2
          go_roundw
          case rel =>
            refine ⟨k + 1, q ++ ⟨#[32]⟩ ++ S (textB t), by go_num, rfl, ?_, by rw [ByteArray.size_append, hz3]; omega, by omega, HVV, HB2⟩
            unfold Hid
            rw [HSTEP.out, if_neg hk0, hq.out, show (⟨#[32]⟩ : ByteArray) = S [32] from rfl, S_app2, S_app2]
          case measure => simp [intOf]; omega
    · obtain rfl : k = ts.length := by omega
      have HG : Hid (fmtL (trs ts) = fmtB (trs ts)) := fmtL_good (by have := hV.out; rw [List.take_length] at this; exact this)
      have HQ : Hid (q = S (fmtB (trs ts))) := by have := hq.out; rw [List.take_length] at this; exact this
      clear hV hq
      go_wp2
      go_ret
      exact ⟨by rw [HQ.out, HG.out]; rfl, hB.out⟩

end Go.Proofs.YtbegenmhfmpgpaaDoor
