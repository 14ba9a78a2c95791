/- The statements' own functions lines and kinds, and their fixed example. Condition: strconv.ErrRange holds an interface value. -/
import Derived.Test.YtebfnlahiodefaaDoorLayW10
import Derived.Test.YtebfnlahiodefaaDoorLayS
namespace Go.Proofs.YtebfnlahiodefaaDoor
open Go.RowKit M

theorem S_app (a b : Bs) : S (a ++ b) = S a ++ S b := by
  apply WideShapes.bytes_inj
  simp

set_option maxRecDepth 100000 in
set_option maxHeartbeats 3200000 in
theorem lines_any (s : ByteArray) (hx : s.size ≤ maxLen) (w : World) (hr : RangeVar w) :
    Calls Tryd.prog 37 #[.string s] w (ScanPost (insL (scan s.data.toList).1) w) := by
  have HR := Lib.hid hr
  have HSC := Lib.hid (fun W => rscan_any s hx W)
  have HLN := Lib.hid (scan_length s.data.toList)
  have HST := Lib.hid (scan_str s.data.toList)
  generalize scan s.data.toList = R at *
  obtain ⟨ts, ⟨pa, pb⟩, er⟩ := R
  simp only at HLN HST
  have HI := Lib.hid (fun W A n c h1 h2 h3 => insert_all W A n c ts h1 h2 h3 (by have := HLN.out; omega) (fun t ht => by have := HST.out t ht; omega))
  generalize insL ts = Q at *
  obtain ⟨out, ⟨qa, qb⟩, e2⟩ := Q
  clear hr hx
  go_enter Tryd.func37, Tryd.ntmps37
  go_wp2_with fail
  refine (HSC.out _).mono ?_
  rintro e w1 ⟨v1, rfl, ho1, hb1⟩
  obtain ⟨A1, c1, rfl⟩ := owns_form ho1
  simp only at ho1
  have hz1 := hb1.size
  simp at hz1
  have HO1 := Lib.hid ho1
  have HB1 := Lib.hid hb1
  have hwf : ∀ i, w1.frozen? ⟨w.heap.size, i, none⟩ = false := fun i => (hb1.frozen (p := ⟨w.heap.size, i, none⟩) (by simp)).trans ((Blk.new w 23 #[.int .i64 0, .int .i64 0]).frozen i)
  have hwc : ∀ i, w1.cell? ⟨w.heap.size, i, none⟩ = #[Value.int .i64 0, Value.int .i64 0][i]? := fun i => (hb1.cell (p := ⟨w.heap.size, i, none⟩) (by simp)).trans ((Blk.new w 23 #[.int .i64 0, .int .i64 0]).cell i)
  have hb0 : Below w.heap.size w w1 := ((Below.refl _ _).alloc (Nat.le_refl _) _).trans (hb1.mono (by simp))
  have HB0 := Lib.hid hb0
  have hw0 : w1.cell? ⟨w.heap.size, 0, none⟩ = some (.int .i64 0) := hwc 0
  have hw1 : w1.cell? ⟨w.heap.size, 1, none⟩ = some (.int .i64 0) := hwc 1
  clear ho1 hb1 hwc hb0
  go_wp2_with fail
  refine (HI.out _ _ _ _ rfl (InToks.own (HO1.out.alloc _) rfl) ((HR.out.below HB0.out).alloc _)).mono ?_
  rintro e w2 ⟨v2, rfl, ho2, hb2⟩
  obtain ⟨A2, c2, rfl⟩ := owns_form ho2
  have hz2 := hb2.size
  simp at hz2
  have HO2 := Lib.hid ho2
  obtain ⟨hc2, hf2⟩ := bcell hb2
  have y0 : w2.cell? ⟨w.heap.size, 0, none⟩ = some (.int .i64 0) := by rw [hc2 _ _ (by simp; omega), World.cell?_alloc_lt _ _ _ (by simp; omega)]; exact hw0
  have y1 : w2.cell? ⟨w.heap.size, 1, none⟩ = some (.int .i64 0) := by rw [hc2 _ _ (by simp; omega), World.cell?_alloc_lt _ _ _ (by simp; omega)]; exact hw1
  have yf : ∀ i, w2.frozen? ⟨w.heap.size, i, none⟩ = false := fun i => by
    rw [hf2 _ _ (by simp; omega)]
    have := ((Below.refl w1.heap.size w1).alloc (Nat.le_refl _) (.cells #[.int .i64 pa, .int .i64 pb] 23)).frozen (p := ⟨w.heap.size, i, none⟩) (by simp; omega)
    exact this.trans (hwf i)
  have HB2 := Lib.hid hb2
  have hne : (Value.slice A2 out.length c2).ownBlock ≠ some w.heap.size := fun q => by have := (ho2.lt _ q).1; simp at this; omega
  have HNE := Lib.hid hne
  clear ho2 hb2 hc2 hf2 hne hw0 hw1 hwf
  go_wp2_with fail
  refine bodyPost_ret (v := .tuple #[.slice A2 out.length c2, posV qa qb, .int .i64 e2]) ?_ rfl ?_
  · simp [results, Tryd.results37, go_sem, y0, y1]
  · refine ⟨_, rfl, owns_base (owns_set (owns_set HO2.out HNE.out _) HNE.out _) (by simp; omega), (((HB0.out.alloc (by omega) _).trans (HB2.out.mono (by simp; omega))).setCell (by simp) _).setCell (by simp) _⟩

set_option maxRecDepth 100000 in
set_option maxHeartbeats 3200000 in
theorem kinds_any (w : World) (A : Option Addr) (n c : Nat) (ts : List Tok) (hn : n = ts.length) (hA : InToks w A ts) (hm : ts.length ≤ 1000000000) :
    Calls Tryd.prog 38 #[.slice A n c] w fun e w' => e = .returned (.string (S (kindsB ts))) ∧ w = w' := by
  have HA := Lib.hid hA
  have hR : Hid (kindsB ts = kindsB (ts.take ts.length)) := by unfold Hid; rw [List.take_length]
  subst hn
  generalize kindsB ts = R at *
  clear hA
  go_enter Tryd.func38, Tryd.ntmps38
  go_wp2_with fail
  go_loop [3, 4] (fun t3 t4 => ∃ k q, k ≤ ts.length ∧ t4 = .int .i64 (k : Nat) ∧ t3 = .string q ∧ q.size ≤ k ∧ Hid (q = S (kindsB (ts.take k)))) (fun _ t4 => ts.length - (intOf t4).toNat)
  case atStart => exact ⟨0, _, by omega, rfl, rfl, Nat.le_refl 0, rfl⟩
  case round =>
    obtain ⟨k, q, hk, rfl, rfl, hqs, hq⟩ := hrel
    by_cases hlt : k < ts.length
    · obtain ⟨⟨t, a, b⟩, ht⟩ : ∃ t, ts[k]? = some t := ⟨ts[k], List.getElem?_eq_getElem hlt⟩
      rcases HA.out with hnil | ⟨bb, off, rfl, hbb, hcell⟩
      · rw [hnil] at hlt; simp at hlt
      have x0 := hcell k _ ht 0 _ rfl
      simp only [Nat.add_zero] at x0
      have HNX := Lib.hid (kinds_next ts k _ ht)
      obtain ⟨kd, nu, st, er⟩ := t
      simp only at HNX x0
      have hkd : (kd = 5) ∨ (kd ≠ 5 ∧ kd = 6) ∨ (kd ≠ 5 ∧ kd ≠ 6 ∧ kd = 7) ∨ (kd ≠ 5 ∧ kd ≠ 6 ∧ kd ≠ 7) := by omega
      clear hcell ht
      rcases hkd with h1 | ⟨h1, h2⟩ | ⟨h1, h2, h3⟩ | ⟨h1, h2, h3⟩
      · have g1 : (kd == 5) = true := beq_iff_eq.2 h1
        have hz : Hid (q ++ ⟨#[79]⟩ = S (kindsB (ts.take (k + 1)))) := by
          unfold Hid; rw [HNX.out, hq.out]; unfold letterK; rw [if_pos h1]; exact (S_app _ [79]).symm
        clear h1
        go_wp2
        go_round
        case rel => exact ⟨k + 1, _, by omega, by go_num, rfl, by rw [ByteArray.size_append]; show q.size + 1 ≤ k + 1; omega, hz⟩
        case measure => simp [intOf]; omega
      · have g1 : (kd == 5) = false := beq_eq_false_iff_ne.2 h1
        have g2 : (kd == 6) = true := beq_iff_eq.2 h2
        have hz : Hid (q ++ ⟨#[83]⟩ = S (kindsB (ts.take (k + 1)))) := by
          unfold Hid; rw [HNX.out, hq.out]; unfold letterK; rw [if_neg h1, if_pos h2]; exact (S_app _ [83]).symm
        clear h1 h2
        go_wp2
        go_round
        case rel => exact ⟨k + 1, _, by omega, by go_num, rfl, by rw [ByteArray.size_append]; show q.size + 1 ≤ k + 1; omega, hz⟩
        case measure => simp [intOf]; omega
      · have g1 : (kd == 5) = false := beq_eq_false_iff_ne.2 h1
        have g2 : (kd == 6) = false := beq_eq_false_iff_ne.2 h2
        have g3 : (kd == 7) = true := beq_iff_eq.2 h3
        have hz : Hid (q ++ ⟨#[67]⟩ = S (kindsB (ts.take (k + 1)))) := by
          unfold Hid; rw [HNX.out, hq.out]; unfold letterK; rw [if_neg h1, if_neg h2, if_pos h3]; exact (S_app _ [67]).symm
        clear h1 h2 h3
        go_wp2
        go_round
        case rel => exact ⟨k + 1, _, by omega, by go_num, rfl, by rw [ByteArray.size_append]; show q.size + 1 ≤ k + 1; omega, hz⟩
        case measure => simp [intOf]; omega
      · have g1 : (kd == 5) = false := beq_eq_false_iff_ne.2 h1
        have g2 : (kd == 6) = false := beq_eq_false_iff_ne.2 h2
        have g3 : (kd == 7) = false := beq_eq_false_iff_ne.2 h3
        have hz : Hid (q ++ ⟨#[46]⟩ = S (kindsB (ts.take (k + 1)))) := by
          unfold Hid; rw [HNX.out, hq.out]; unfold letterK; rw [if_neg h1, if_neg h2, if_neg h3]; exact (S_app _ [46]).symm
        clear h1 h2 h3
        go_wp2
        go_round
        case rel => exact ⟨k + 1, _, by omega, by go_num, rfl, by rw [ByteArray.size_append]; show q.size + 1 ≤ k + 1; omega, hz⟩
        case measure => simp [intOf]; omega
    · have hkn : k = ts.length := by omega
      subst hkn
      go_wp2
      go_ret
      exact ⟨ret_string (by rw [hq.out, hR.out]), rfl⟩

end Go.Proofs.YtebfnlahiodefaaDoor
