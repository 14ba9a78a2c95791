/- LexerPositions' walk: the text of each token of a source stands at its position, and the positions ascend. Conditions: the arguments lie in memory; the listed library variables hold what the program's text lays in them. -/
import Derived.Test.YtbegenmhfmpgpaaDoorTokQ
import Derived.Test.YtbegenmhfmpgpaaDoorLexX0
import Derived.Test.YtbegenmhfmpgpaaDoorLayT1
import Derived.Test.YtbegenmhfmpgpaaDoorLexA
import Derived.Test.YtbegenmhfmpgpaaDoorLexRA
namespace Go.Proofs.YtbegenmhfmpgpaaDoor
open Go.RowKit M

/-- the offset of the token before the k-th, or -1 -/
def lastV (g : Nat → Nat) (k : Nat) : Int := if k = 0 then -1 else (g (k - 1) : Int)
theorem lastV_lt {L : Bs} {o : Nat} {g : Nat → Nat} {ts : List Tok} (hs : Spots L o g ts) {k : Nat} {t : Tok} (ht : ts[k]? = some t) : lastV g k < (g k : Int) ∧ -1 ≤ lastV g k := by
  unfold lastV
  by_cases h : k = 0
  · rw [if_pos h]; omega
  · rw [if_neg h]
    have := (hs k t ht).2.1 (k - 1) (by omega)
    omega
theorem lastV_succ (g : Nat → Nat) (k : Nat) : lastV g (k + 1) = (g k : Int) := by unfold lastV; rw [if_neg (by omega)]; rfl

set_option maxRecDepth 100000 in
set_option maxHeartbeats 6400000 in
theorem lexerPositions_any (w : World) (A : Option Addr) (n c : Nat) (hA : InBytes w A n) (hn : n ≤ maxLen) (B : Option Addr) (m d : Nat) (hB : InInts w B m) (hm : m ≤ maxLen) (hr : RangeVar w) :
    Calls Tryd.prog 5 #[.slice A n c, .slice B m d] w fun e w' => e = .returned (.bool true) ∧ Below w.heap.size w w' := by
  have HA := Lib.hid hA
  have HN := Lib.hid hn
  have HI := Lib.hid hB
  have HM := Lib.hid hm
  have HR := Lib.hid hr
  clear hA hn hB hm hr
  go_enter Tryd.func5, Tryd.ntmps5
  go_wp2_with fail
  refine (pieces_any _ A n c HA.out HN.out).mono ?_
  rintro e w1 ⟨t1, rfl, ht1, hb1⟩
  have HB1 : Hid (Below w.heap.size w w1) := hb1
  have HI1 : Hid (InInts w1 B m) := HI.out.below hb1
  clear hb1
  go_wp2_with fail
  refine (layouted_any _ B m d HI1.out HM.out).mono ?_
  rintro e w2 ⟨t2, rfl, ht2, hb2⟩
  have HB2 : Hid (Below w.heap.size w w2) := HB1.out.trans (hb2.mono HB1.out.size)
  have HR2 : Hid (RangeVar w2) := HR.out.below HB2.out
  have hz1 : (t1 ++ (⟨#[10]⟩ : ByteArray)).size = t1.size + 1 := by rw [ByteArray.size_append]; rfl
  have hz2 : (t1 ++ (⟨#[10]⟩ : ByteArray) ++ t2).size = t1.size + 1 + t2.size := by rw [ByteArray.size_append, hz1]
  clear hb2 HB1 HI1
  go_wp2_with fail
  have hq : (t1 ++ (⟨#[10]⟩ : ByteArray) ++ t2).size ≤ 3000 := by omega
  generalize t1 ++ (⟨#[10]⟩ : ByteArray) ++ t2 = q at *
  clear hz1 hz2 ht1 ht2
  have HSP := Lib.hid (scan_spots q.data.toList)
  have HSL := Lib.hid (scan_length q.data.toList)
  have HSR := Lib.hid (fun W => rscan_any q (by unfold maxLen; omega) W)
  have HSC := Lib.hid (scan_any q (by unfold maxLen; omega) w2 HR2.out)
  obtain ⟨⟨ts, ⟨p1, p2⟩, er⟩, hR⟩ : ∃ R, scan q.data.toList = R := ⟨_, rfl⟩
  rw [hR] at HSP HSL HSR HSC
  clear hR
  refine HSC.out.mono ?_
  rintro e w3 ⟨v3, rfl, ho3, hb3⟩
  obtain ⟨A3, c3, rfl⟩ := owns_form ho3
  simp only at ho3 HSP HSL ⊢
  have HI3 : Hid (InToks w3 A3 ts) := InToks.own ho3 rfl
  have HB3 : Hid (Below w.heap.size w w3) := HB2.out.trans (hb3.mono HB2.out.size)
  have HR3 : Hid (RangeVar w3) := HR2.out.below hb3
  clear ho3 hb3 HB2 HR2 HSC
  go_wp2_with fail
  refine (awake_any _ (HR3.out.alloc _)).mono ?_
  rintro e w4 ⟨rfl, hb4⟩
  have HB4 : Hid (Below w.heap.size w w4) := (HB3.out.alloc HB3.out.size _).trans (hb4.mono (by have := HB3.out.size; simp; omega))
  have HI4 : Hid (InToks w4 A3 ts) := (HI3.out.alloc _).below hb4
  have HR4 : Hid (RangeVar w4) := (HR3.out.alloc _).below hb4
  clear hb4 HI3 HB3 HR3
  by_cases he : er = 0
  · subst he
    obtain ⟨g, hg⟩ := HSP.out rfl
    have HG := Lib.hid hg
    clear hg HSP HSR
    have hts : ts.length ≤ 16384 := HSL.out
    go_wp2_with fail
    go_loopw [12, 13] (fun l i wr => ∃ k : Nat, i = .int .i64 k ∧ l = .int .i64 (lastV g k) ∧ k ≤ ts.length ∧ Hid (Below w4.heap.size w4 wr)) (fun _ i _ => ts.length - (intOf i).toNat)
    case atStart => exact ⟨0, rfl, rfl, by omega, Below.refl _ _⟩
    case round =>
      obtain ⟨k, rfl, rfl, hk, hBW⟩ := hrel
      by_cases hlt : k < ts.length
      · obtain ⟨⟨t, a, b⟩, ht⟩ : ∃ t, ts[k]? = some t := ⟨ts[k], List.getElem?_eq_getElem hlt⟩
        obtain ⟨sp, _, hgo⟩ := HG.out k _ ht
        obtain ⟨hl1, hl2⟩ := lastV_lt HG.out ht
        have hHI := HI4.out.below hBW.out
        rcases hHI with hnil | ⟨bb, off, rfl, hbb, hcell⟩
        · rw [hnil] at hlt; simp at hlt
        have x0 := hcell _ _ ht 0 _ rfl
        have x1 := hcell _ _ ht 1 _ rfl
        have x2 := hcell _ _ ht 2 _ rfl
        have x3 := hcell _ _ ht 3 _ rfl
        have x4 := hcell _ _ ht 4 _ rfl
        simp only [Nat.add_zero] at x0
        have HTX : Hid (∀ W, Calls Tryd.prog 20 #[tkV t a b] W fun e w' => e = .returned (.string (S (textB t))) ∧ Below W.heap.size W w') := fun W => rtext_any t a b sp.num0 sp.num1 W
        have hfit := sp.fits
        simp only at hfit
        have hfit : g k + (S (textB t)).size ≤ q.size := by rw [show (S (textB t)).size = (textB t).length from rfl]; simpa using hfit
        have HOF := Lib.hid (fun W => offset_any q (g k) (by omega) (by omega) a b sp.pos W)
        have c2 : Hid (((q.extract (g k) (g k + (S (textB t)).size)).toList == (S (textB t)).toList) = true) := by
          have hext : (q.extract (g k) (g k + (textB t).length)).data.toList = (q.data.toList.drop (g k)).take (textB t).length := by
            rw [ByteArray.data_extract, Array.toList_extract, List.extract_eq_take_drop, Nat.add_sub_cancel_left]
          unfold Hid
          rw [ByteArray.toList_eq, ByteArray.toList_eq, S_toList, show (S (textB t)).size = (textB t).length from rfl, hext]
          have := sp.text
          simp only at this
          rw [this]
          simp
        obtain ⟨T, hT⟩ : ∃ T, S (textB t) = T := ⟨_, rfl⟩
        rw [hT] at HTX hfit c2
        obtain ⟨o, ho⟩ : ∃ o, g k = o := ⟨_, rfl⟩
        have HLS : Hid (lastV g (k + 1) = (o : Int)) := by unfold Hid; rw [lastV_succ, ho]
        rw [ho] at HOF hfit c2 hl1
        obtain ⟨la, hla⟩ : ∃ l, lastV g k = l := ⟨_, rfl⟩
        rw [hla] at hl1 hl2 ⊢
        clear hcell ht sp hgo hT ho hla
        go_wp2_with fail
        refine (HTX.out _).mono ?_
        rintro e w5 ⟨rfl, hb5⟩
        have y3 := (hb5.cell (p := ⟨bb, off + k * 5 + 3, none⟩) hbb).trans x3
        have y4 := (hb5.cell (p := ⟨bb, off + k * 5 + 4, none⟩) hbb).trans x4
        have HB5 : Hid (Below w4.heap.size w4 w5) := hBW.out.trans (hb5.mono hBW.out.size)
        clear hb5 x0 x1 x2 x3 x4 hBW HTX
        go_wp2_with fail
        refine (HOF.out _).mono ?_
        rintro e w6 ⟨rfl, hb6⟩
        have HB6 : Hid (Below w4.heap.size w4 w6) := HB5.out.trans (hb6.mono HB5.out.size)
        clear hb6 y3 y4 HOF
        have g1 : ¬ (o : Int) ≤ la := by omega
        have g2 : (o : Int) + (T.size : Int) ≤ (q.size : Int) := by omega
        have c3 := c2.out
        go_wp2_with fail
        go_roundw
        case rel => exact ⟨k + 1, by go_num, by rw [HLS.out], by omega, HB6⟩
        case measure => simp [intOf]; omega
      · obtain rfl : k = ts.length := by omega
        go_wp2_with fail
        go_ret
        exact ⟨rfl, HB4.out.trans (hBW.out.mono HB4.out.size)⟩
  · have g1 : (er != 0) = true := by simpa using he
    clear HSP HSL HI4
    go_wp2_with fail
    refine (HSR.out _).mono ?_
    rintro e w5 ⟨v5, rfl, ho5, hb5⟩
    obtain ⟨A5, c5, rfl⟩ := owns_form ho5
    simp only at ho5 ⊢
    have HB5 : Hid (Below w.heap.size w w5) := HB4.out.trans (hb5.mono HB4.out.size)
    have HR5 : Hid (RangeVar w5) := HR4.out.below hb5
    clear ho5 hb5 HB4 HR4 HSR
    go_wp2_with fail
    refine (awake_any _ (HR5.out.alloc _)).mono ?_
    rintro e w6 ⟨rfl, hb6⟩
    have HB6 : Hid (Below w.heap.size w w6) := (HB5.out.alloc HB5.out.size _).trans (hb6.mono (by have := HB5.out.size; simp; omega))
    clear hb6
    go_wp2_with fail
    go_ret
    exact ⟨rfl, HB6.out⟩

end Go.Proofs.YtbegenmhfmpgpaaDoor
