/- ValueTotalOrder returns true. Conditions: slices of numbers, a string of at most 2^48 bytes. -/
import Derived.Test.YtmaboodfgmbdjaaGreatDoorVgC
import Derived.Test.YtmaboodfgmbdjaaGreatDoorVaC2
import Derived.Test.YtmaboodfgmbdjaaGreatDoorEvD
namespace Go.Proofs.YtmaboodfgmbdjaaGreatDoor
open Go Go.RowKit VM

theorem vawake_run : Ev.valOf (Ev.runC Tryz.prog 100000 .leaf 11 []) = some (.bool true) := by kernel_rfl
theorem vawake_any (w : World) : Calls Tryz.prog 11 #[] w fun e w' => e = .returned (.bool true) ∧ Below w.heap.size w w' :=
  Ev.calls_of_run (P := Tryz.prog) (by kernel_rfl) (args := []) rfl vawake_run w
theorem cmpM_range (s t : ByteArray) : -1 ≤ cmpM s t ∧ cmpM s t ≤ 1 := by
  have hs : ∀ a b : Int, -1 ≤ sgn a b ∧ sgn a b ≤ 1 := by
    intro a b
    unfold sgn
    split
    · omega
    · split <;> omega
  have hL : ∀ (f : V → V → Int) (hf : ∀ x y, -1 ≤ f x y ∧ f x y ≤ 1) (l m : List V), -1 ≤ ord.ordL f l m ∧ ord.ordL f l m ≤ 1 := by
    intro f hf l
    induction l with
    | nil => intro m; cases m <;> (unfold ord.ordL; omega)
    | cons a l ih =>
      intro m
      cases m with
      | nil => unfold ord.ordL; omega
      | cons b m =>
        unfold ord.ordL
        split
        · exact hf a b
        · exact ih m
  have ho : ∀ d x y, -1 ≤ ord d x y ∧ ord d x y ≤ 1 := by
    intro d
    induction d with
    | zero => intro x y; unfold ord; omega
    | succ d ih =>
      intro x y
      unfold ord
      split
      · exact hs _ _
      · split
        · exact hs _ _
        · exact hs _ _
        · exact hs _ _
        · exact hL _ ih _ _
        · omega
  unfold cmpM
  split
  · omega
  · split
    · split
      · exact ho _ _ _
      · omega
    · split
      · omega
      · split <;> omega
set_option maxRecDepth 100000 in
set_option maxHeartbeats 12800000 in
theorem valueTotalOrder_any (raw : ByteArray) (hraw : raw.size ≤ 281474976710656) (a0 a1 a2 : Option Addr) (n0 c0 n1 c1 n2 c2 : Nat) (h0 : n0 ≤ maxLen) (h1 : n1 ≤ maxLen) (h2 : n2 ≤ maxLen) (w : World) (hI0 : InInts w a0 n0) (hI1 : InInts w a1 n1) (hI2 : InInts w a2 n2) :
    Calls Tryz.prog 4 #[.slice a0 n0 c0, .slice a1 n1 c1, .slice a2 n2 c2, .string raw] w fun e w' => e = .returned (.bool true) ∧ Below w.heap.size w w' := by
  have HV := hide (value_st 3 (by decide) (by decide))
  have HI1 := hide hI1
  have HI2 := hide hI2
  have HN0 := Lib.hid h0
  have HN1 := Lib.hid h1
  have HN2 := Lib.hid h2
  have HRAW := Lib.hid hraw
  have HC0 := hide (CSt.start (c := c0) hI0)
  have HB0 : Hid (Below w.heap.size w (w.alloc (.cells #[.slice a0 n0 c0, .int .i64 0] 53))) := hide ((Below.refl _ _).alloc (Nat.le_refl _) _)
  clear hI0 hI1 hI2 h0 h1 h2 hraw
  go_enter Tryz.func4, Tryz.ntmps4
  go_wp2_with fail
  refine (new_cho w a0 n0 c0).mono ?_
  rintro e w1 ⟨rfl, rfl⟩
  go_wp2_with fail
  refine ((unhide HV) 3 rfl _ w.heap.size a0 n0 c0 (unhide HC0) HN0.out).mono ?_
  rintro e w2 ⟨s0, rfl, hv0, -, hG2⟩
  have HS0 := Lib.hid (hv0.size (by decide))
  have HB2 := hide (below_grown (unhide HB0) hG2 (Nat.le_refl _) (Nat.le_refl _))
  clear hv0 hG2 HC0 HB0
  have HC1 := hide (CSt.start (c := c1) ((unhide HI1).below (unhide HB2)))
  have HB3 : Hid (Below w.heap.size w (w2.alloc (.cells #[.slice a1 n1 c1, .int .i64 0] 53))) := hide ((unhide HB2).alloc (unhide HB2).size _)
  go_wp2_with fail
  refine (new_cho w2 a1 n1 c1).mono ?_
  rintro e w3 ⟨rfl, rfl⟩
  go_wp2_with fail
  refine ((unhide HV) 3 rfl _ w2.heap.size a1 n1 c1 (unhide HC1) HN1.out).mono ?_
  rintro e w4 ⟨s1, rfl, hv1, -, hG4⟩
  have HS1 := Lib.hid (hv1.size (by decide))
  have HB4 := hide (below_grown (unhide HB3) hG4 (unhide HB2).size (Nat.le_refl _))
  clear hv1 hG4 HC1 HB3 HB2
  have HC2 := hide (CSt.start (c := c2) ((unhide HI2).below (unhide HB4)))
  have HB5 : Hid (Below w.heap.size w (w4.alloc (.cells #[.slice a2 n2 c2, .int .i64 0] 53))) := hide ((unhide HB4).alloc (unhide HB4).size _)
  go_wp2_with fail
  refine (new_cho w4 a2 n2 c2).mono ?_
  rintro e w5 ⟨rfl, rfl⟩
  go_wp2_with fail
  refine ((unhide HV) 3 rfl _ w4.heap.size a2 n2 c2 (unhide HC2) HN2.out).mono ?_
  rintro e w6 ⟨s2, rfl, hv2, -, hG6⟩
  have HS2 := Lib.hid (hv2.size (by decide))
  have HB6 := hide (below_grown (unhide HB5) hG6 (unhide HB4).size (Nat.le_refl _))
  clear hv2 hG6 HC2 HB5 HB4
  have HK7 := hide (Blk.new w6 27 #[.string s0, .string s1, .string s2, .string raw])
  have HB7 := hide ((unhide HB6).alloc (unhide HB6).size (.cells #[.string s0, .string s1, .string s2, .string raw] 27))
  have HEL : Hid (∀ i : Nat, i < 4 → ∃ s : ByteArray, (#[.string s0, .string s1, .string s2, .string raw] : Array Value)[i]? = some (.string s) ∧ s.size ≤ 281474976710656) := Lib.hid (fun i hi => by
    have : i = 0 ∨ i = 1 ∨ i = 2 ∨ i = 3 := by omega
    have b0 := HS0.out
    have b1 := HS1.out
    have b2 := HS2.out
    rcases this with rfl | rfl | rfl | rfl
    · exact ⟨s0, rfl, by omega⟩
    · exact ⟨s1, rfl, by omega⟩
    · exact ⟨s2, rfl, by omega⟩
    · exact ⟨raw, rfl, HRAW.out⟩)
  clear HB6
  go_wp2_with fail
  generalize (#[.string s0, .string s1, .string s2, .string raw] : Array Value) = cs at *
  generalize hw7 : w6.alloc (.cells cs 27) = w7 at *
  generalize w6.heap.size = gl at *
  clear hw7 HS0 HS1 HS2 HRAW HI1 HI2 HV HN0 HN1 HN2
  go_loopw [29] (fun iv wr => ∃ i : Nat, iv = .int .i64 i ∧ i ≤ 4 ∧ Hid (Blk wr gl 27 cs) ∧ Hid (Below w.heap.size w wr)) (fun iv _ => 4 - (intOf iv).toNat)
  case atStart => exact ⟨0, rfl, by omega, unhide HK7, unhide HB7⟩
  case round =>
    obtain ⟨i, rfl, hi, hK, hB⟩ := hrel
    by_cases hi4 : i < 4
    · have gi : decide ((i : Int) < 4) = true := decide_eq_true (by omega)
      obtain ⟨a, ha, hsa⟩ := HEL.out i hi4
      have ka := (hK.out.cell i).trans ha
      clear ha HK7 HB7
      generalize wr = wo at *
      go_wp2_with fail
      go_loopw [35] (fun iv wr => ∃ j : Nat, iv = .int .i64 j ∧ j ≤ 4 ∧ Hid (Blk wr gl 27 cs) ∧ Hid (Below w.heap.size w wr)) (fun iv _ => 4 - (intOf iv).toNat)
      case atStart => exact ⟨0, rfl, by omega, hK.out, hB.out⟩
      case round =>
        obtain ⟨j, rfl, hj, hK2, hB2⟩ := hrel
        by_cases hj4 : j < 4
        · have gj : decide ((j : Int) < 4) = true := decide_eq_true (by omega)
          obtain ⟨b, hb, hsb⟩ := HEL.out j hj4
          have kb := (hK2.out.cell j).trans hb
          have HCAB := Lib.hid (fun w => compare_any a b hsa hsb w)
          have HCBA := Lib.hid (fun w => compare_any b a hsb hsa w)
          have hAN := cmpM_anti a b
          have hRG := cmpM_range b a
          obtain ⟨q, hq⟩ : ∃ q, q = cmpM b a := ⟨_, rfl⟩
          rw [← hq] at HCBA hAN hRG
          rw [hAN] at HCAB
          have HZ : Hid (∃ z : Bool, (-q == 0) = z ∧ (a.toList == b.toList) = z) := Lib.hid (by
            by_cases he : a = b
            · subst he
              rw [cmpM_self] at hq
              subst hq
              exact ⟨true, rfl, beq_self_eq_true _⟩
            · have : ¬ cmpM a b = 0 := fun z => he ((cmpM_zero a b).1 z)
              exact ⟨false, beq_eq_false_iff_ne.2 (by omega), ne_list he⟩)
          have HAB : Hid (cmpM a b = -q) := Lib.hid hAN
          clear hb ka hAN hq hK hB
          generalize wr = w8 at *
          go_wp2_with fail
          refine (HCAB.out _).mono ?_
          rintro e w9 ⟨rfl, hb9⟩
          have HB9 := hide (hB2.out.trans (hb9.mono hB2.out.size))
          have HK9 := hide (Blk.below hK2.out hb9 hK2.out.lt)
          clear hb9 hB2 hK2
          go_wp2_with fail
          refine (HCBA.out _).mono ?_
          rintro e w10 ⟨rfl, hb10⟩
          have HB10 := hide ((unhide HB9).trans (hb10.mono (unhide HB9).size))
          have HK10 := hide (Blk.below (unhide HK9) hb10 (unhide HK9).lt)
          clear hb10 HB9 HK9
          go_wp2_with fail
          refine (HCAB.out _).mono ?_
          rintro e w11 ⟨rfl, hb11⟩
          have HB11 := hide ((unhide HB10).trans (hb11.mono (unhide HB10).size))
          have HK11 := hide (Blk.below (unhide HK10) hb11 (unhide HK10).lt)
          clear hb11 HB10 HK10
          obtain ⟨z, hz1, hz2⟩ := HZ.out
          go_wp2_with fail
          clear hz1 hz2
          generalize w11 = wo2 at *
          go_loopw [59] (fun iv wr => ∃ k : Nat, iv = .int .i64 k ∧ k ≤ 4 ∧ Hid (Blk wr gl 27 cs) ∧ Hid (Below w.heap.size w wr)) (fun iv _ => 4 - (intOf iv).toNat)
          case atStart => exact ⟨0, rfl, by omega, unhide HK11, unhide HB11⟩
          case round =>
            obtain ⟨k, rfl, hk, hK3, hB3⟩ := hrel
            clear HK11 HB11
            by_cases hk4 : k < 4
            · have gk : decide ((k : Int) < 4) = true := decide_eq_true (by omega)
              obtain ⟨d, hd, hsd⟩ := HEL.out k hk4
              have kd := (hK3.out.cell k).trans hd
              have HCBD := Lib.hid (fun w => compare_any b d hsb hsd w)
              have HCAD := Lib.hid (fun w => compare_any a d hsa hsd w)
              have HTR : Hid (-q ≤ 0 → cmpM b d ≤ 0 → cmpM a d ≤ 0) := Lib.hid (fun h1 h2 => cmpM_trans a b d (by rw [HAB.out]; exact h1) h2)
              generalize cmpM b d = p2 at *
              generalize cmpM a d = p3 at *
              clear hd
              generalize wr = w12 at *
              go_wp2_with fail
              refine (HCAB.out _).mono ?_
              rintro e w13 ⟨rfl, hb13⟩
              have HB13 := hide (hB3.out.trans (hb13.mono hB3.out.size))
              have HK13 := hide (Blk.below hK3.out hb13 hK3.out.lt)
              clear hb13 hB3 hK3
              by_cases q1 : -q ≤ 0
              · go_wp2_with fail
                refine (HCBD.out _).mono ?_
                rintro e w14 ⟨rfl, hb14⟩
                have HB14 := hide ((unhide HB13).trans (hb14.mono (unhide HB13).size))
                have HK14 := hide (Blk.below (unhide HK13) hb14 (unhide HK13).lt)
                clear hb14 HB13 HK13
                by_cases q2 : p2 ≤ 0
                · have q3 : ¬ 0 < p3 := by have := HTR.out q1 q2; omega
                  go_wp2_with fail
                  refine (HCAD.out _).mono ?_
                  rintro e w15 ⟨rfl, hb15⟩
                  have HB15 := hide ((unhide HB14).trans (hb15.mono (unhide HB14).size))
                  have HK15 := hide (Blk.below (unhide HK14) hb15 (unhide HK14).lt)
                  clear hb15 HB14 HK14
                  go_wp2_with fail
                  go_roundw
                  case rel => exact ⟨k + 1, by go_num, by omega, unhide HK15, unhide HB15⟩
                  case measure => simp [intOf]; omega
                · go_wp2_with fail
                  go_roundw
                  case rel => exact ⟨k + 1, by go_num, by omega, unhide HK14, unhide HB14⟩
                  case measure => simp [intOf]; omega
              · go_wp2_with fail
                go_roundw
                case rel => exact ⟨k + 1, by go_num, by omega, unhide HK13, unhide HB13⟩
                case measure => simp [intOf]; omega
            · go_wp2_with fail
              go_roundw
              case rel => exact ⟨j + 1, by go_num, by omega, hK3.out, hB3.out⟩
              case measure => simp [intOf]; omega
        · go_wp2_with fail
          go_roundw
          case rel => exact ⟨i + 1, by go_num, by omega, hK2.out, hB2.out⟩
          case measure => simp [intOf]; omega
    · go_wp2_with fail
      refine (vawake_any _).mono ?_
      rintro e w16 ⟨rfl, hb16⟩
      have HB16 := hide (hB.out.trans (hb16.mono hB.out.size))
      clear hb16
      go_wp2_with fail
      go_ret
      exact ⟨rfl, unhide HB16⟩

end Go.Proofs.YtmaboodfgmbdjaaGreatDoor
