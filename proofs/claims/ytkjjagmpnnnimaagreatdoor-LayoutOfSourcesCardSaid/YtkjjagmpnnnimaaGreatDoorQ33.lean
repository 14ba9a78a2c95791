/- The fixed example of the statements about layout holds; Balanced, by the program and by the reference. Condition: strconv.ErrRange holds an interface value. LayoutOfSources returns true: Insert returns the specified tokens for generated sources. Conditions: a slice of numbers has a length; strconv.ErrRange holds an interface value. Openings of arguments: a slice of numbers. No conditions. -/
import Derived.Test.YtkjjagmpnnnimaaGreatDoorQ32
import Derived.Test.YtkjjagmpnnnimaaGreatDoorQ20
import Derived.Test.YtkjjagmpnnnimaaGreatDoorQ30
import Derived.Test.YtkjjagmpnnnimaaGreatDoorQ9
import Derived.Test.YtkjjagmpnnnimaaGreatDoorQ8
namespace Go.Proofs.YtkjjagmpnnnimaaGreatDoor
open Go.RowKit M

set_option maxRecDepth 100000 in
set_option maxHeartbeats 3200000 in
theorem awake2_any (w : World) (hr : RangeVar w) :
    Calls Tryz.prog 7 #[] w fun e w' => e = .returned (.bool true) ∧ Below w.heap.size w w' := by
  have HR := Lib.hid hr
  have h1 := fun W hr => lines_any ⟨#[102, 32, 61, 32, 108, 101, 116, 32, 120, 32, 61, 32, 49, 10, 32, 32, 32, 32, 32, 32, 32, 32, 121, 32, 61, 32, 50, 10, 32, 32, 32, 32, 119, 105, 116, 104, 105, 110, 32, 120, 10, 103, 32, 61, 32, 51]⟩ (by decide) W hr
  rw [show ((⟨#[102, 32, 61, 32, 108, 101, 116, 32, 120, 32, 61, 32, 49, 10, 32, 32, 32, 32, 32, 32, 32, 32, 121, 32, 61, 32, 50, 10, 32, 32, 32, 32, 119, 105, 116, 104, 105, 110, 32, 120, 10, 103, 32, 61, 32, 51]⟩ : ByteArray).data.toList) = src1 from rfl] at h1
  have h2 := fun W hr => lines_any ⟨#[32, 102, 32, 61, 32, 49]⟩ (by decide) W hr
  rw [show ((⟨#[32, 102, 32, 61, 32, 49]⟩ : ByteArray).data.toList) = [32, 102, 32, 61, 32, 49] from rfl, src2_ok] at h2
  have hok := src1_ok
  have hln := insL_len (scan src1).1
  have hsl := scan_length src1
  generalize insL (scan src1).1 = R at *
  obtain ⟨out, p, er⟩ := R
  obtain ⟨hk1, hk2⟩ := hok
  injection hk1 with hk3 hk4
  subst hk3 hk4
  have HK := Lib.hid hk2
  have HKI := Lib.hid (fun W A n c h1 h2 => kinds_any W A n c out h1 h2 (by simp only at hln; omega))
  have H1 := Lib.hid h1
  have H2 := Lib.hid h2
  clear hr h1 h2 hk2 hln hsl
  go_enter Tryz.func7, Tryz.ntmps7
  go_wp2_with fail
  refine (H1.out _ HR.out).mono ?_
  rintro e w1 ⟨v1, rfl, ho1, hb1⟩
  obtain ⟨A1, c1, rfl⟩ := owns_form ho1
  have HO1 := Lib.hid ho1
  have HR1 := Lib.hid (HR.out.below hb1)
  have HB1 := Lib.hid hb1
  have hz1 := hb1.size
  clear ho1 hb1
  go_wp2_with fail
  refine (H2.out _ (HR1.out.alloc _)).mono ?_
  rintro e w2 ⟨v2, rfl, ho2, hb2⟩
  obtain ⟨A2, c2, rfl⟩ := owns_form ho2
  have HB2 := Lib.hid hb2
  have hz2 := hb2.size
  simp at hz2
  have HI := Lib.hid (fun o : Obj => InToks.own (((owns_below (owns_alloc_n HO1.out _) hb2)).alloc o) rfl)
  clear ho2 hb2
  go_wp2_with fail
  refine (HKI.out _ _ _ _ rfl (HI.out _)).mono ?_
  rw [HK.out]
  rintro e w3 ⟨rfl, rfl⟩
  go_wp2
  go_ret
  exact ⟨rfl, ((HB1.out.alloc hz1 _).trans (HB2.out.mono (by simp; omega))).alloc (by omega) _⟩

theorem balF_none : ∀ (l : List Tok) (d : Nat) (t : Tok), t.1.kind = 7 → d = 0 → balF d (t :: l) = none := by
  intro l d t h1 h2
  rw [balF_cons, if_neg (by omega), if_pos h1, if_pos h2]


end Go.Proofs.YtkjjagmpnnnimaaGreatDoor

namespace Go.Proofs.YtkjjagmpnnnimaaGreatDoor
open Go.RowKit M

set_option maxRecDepth 100000 in
set_option maxHeartbeats 6400000 in
theorem layoutSources_any (w : World) (A : Option Addr) (n c : Nat) (hA : InInts w A n) (hn : n ≤ maxLen) (hr : RangeVar w) :
    Calls Tryz.prog 3 #[.slice A n c] w fun e w' => e = .returned (.bool true) ∧ Below w.heap.size w w' := by
  have HA := Lib.hid hA
  have HN := Lib.hid hn
  have HR := Lib.hid hr
  clear hA hn hr
  go_enter Tryz.func3, Tryz.ntmps3
  go_wp2_with fail
  refine (layouted_any w A n c HA.out HN.out).mono ?_
  rintro e w1 ⟨s, rfl, hs, hb1⟩
  have HB1 := Lib.hid hb1
  have HSC := Lib.hid (fun W => rscan_any s (by unfold maxLen; omega) W)
  have hl1 := scan_length s.data.toList
  have hss := scan_str s.data.toList
  generalize scan s.data.toList = R at *
  obtain ⟨t1, ⟨pa, pb⟩, er⟩ := R
  simp only at hl1 hss
  have HS1 : Hid (∀ t ∈ t1, t.1.str.length ≤ 140737488355328) := fun t ht => by have := hss t ht; omega
  have hl1 : t1.length ≤ 16384 := by omega
  clear hss hb1
  go_wp2_with fail
  refine (HSC.out _).mono ?_
  rintro e w2 ⟨v2, rfl, ho2, hb2⟩
  simp only at ho2
  obtain ⟨A1, c1, rfl⟩ := owns_form ho2
  have HI1 := Lib.hid (InToks.own ho2 rfl)
  have HB2 := Lib.hid (HB1.out.trans (hb2.mono HB1.out.size))
  replace HI1 := Lib.hid (HI1.out.alloc (.cells #[.int .i64 pa, .int .i64 pb] 25))
  replace HB2 := Lib.hid (HB2.out.alloc HB2.out.size (.cells #[.int .i64 pa, .int .i64 pb] 25))
  clear ho2 hb2 HSC HB1
  go_wp2_with fail
  generalize w2.alloc (.cells #[.int .i64 pa, .int .i64 pb] 25) = w2 at *
  refine (gsource w2 A n c (HA.out.below HB2.out) HN.out).mono ?_
  rintro e w3 ⟨s3, rfl, hs3, hb3⟩
  have HB3 := Lib.hid (HB2.out.trans (hb3.mono HB2.out.size))
  have HI3 := Lib.hid (HI1.out.below hb3)
  have HSC := Lib.hid (fun W => rscan_any s3 (by unfold maxLen; omega) W)
  have hl2 := scan_length s3.data.toList
  have hss := scan_str s3.data.toList
  generalize scan s3.data.toList = R at *
  obtain ⟨t2, ⟨qa, qb⟩, er2⟩ := R
  simp only at hl2 hss
  have HS2 : Hid (∀ t ∈ t2, t.1.str.length ≤ 140737488355328) := fun t ht => by have := hss t ht; omega
  have hl2 : t2.length ≤ 16384 := by omega
  clear hss hb3 HI1 HB2
  go_wp2_with fail
  refine (HSC.out _).mono ?_
  rintro e w4 ⟨v4, rfl, ho4, hb4⟩
  simp only at ho4
  obtain ⟨A2, c2, rfl⟩ := owns_form ho4
  have HI4 := Lib.hid (HI3.out.below hb4)
  have HJ4 := Lib.hid (InToks.own ho4 rfl)
  have HB4 := Lib.hid (HB3.out.trans (hb4.mono HB3.out.size))
  replace HI4 := Lib.hid (HI4.out.alloc (.cells #[.int .i64 qa, .int .i64 qb] 25))
  replace HJ4 := Lib.hid (HJ4.out.alloc (.cells #[.int .i64 qa, .int .i64 qb] 25))
  replace HB4 := Lib.hid (HB4.out.alloc HB4.out.size (.cells #[.int .i64 qa, .int .i64 qb] 25))
  have HR4 := Lib.hid (HR.out.below HB4.out)
  clear ho4 hb4 HSC HI3 HB3
  go_wp2_with fail
  generalize w4.alloc (.cells #[.int .i64 qa, .int .i64 qb] 25) = w4 at *
  refine (awake2_any _ HR4.out).mono ?_
  rintro e w5 ⟨rfl, hb5⟩
  have HI5 := Lib.hid (HI4.out.below hb5)
  have HJ5 := Lib.hid (HJ4.out.below hb5)
  have HB5 := Lib.hid (HB4.out.trans (hb5.mono HB4.out.size))
  have HR5 := Lib.hid (HR4.out.below hb5)
  have HG1 := Lib.hid (agrees2_any w5 A1 t1.length c1 t1 rfl HI5.out HR5.out (by omega) HS1.out)
  clear hb5 HI4 HJ4 HB4 HR4
  go_wp2_with fail
  refine HG1.out.mono ?_
  rintro e w6 ⟨rfl, hb6⟩
  have HB6 := Lib.hid (HB5.out.trans (hb6.mono HB5.out.size))
  have HG2 := Lib.hid (agrees2_any w6 A2 t2.length c2 t2 rfl (HJ5.out.below hb6) (HR5.out.below hb6) (by omega) HS2.out)
  clear hb6
  go_wp2_with fail
  refine HG2.out.mono ?_
  rintro e w7 ⟨rfl, hb7⟩
  have HB7 := Lib.hid (HB6.out.trans (hb7.mono HB6.out.size))
  clear hb7
  go_wp2
  go_ret
  exact ⟨rfl, HB7.out⟩

end Go.Proofs.YtkjjagmpnnnimaaGreatDoor

namespace Go.Proofs.YtkjjagmpnnnimaaGreatDoor
open Go Go.ChangeShapes Go.WideShapes Go.ChangeAt Go.RowKit
open Go.WideMaps Go.WideElems
open M

theorem cells_i64 : Tryz.prog.cellsOf 3 = 1 := by kernel_rfl

theorem ints_in {H : Type} {enc : TypeId × Value → H} (W : World) {a : Option Addr} {n c : Nat} {d : DataW H} {p : List MemPlace}
    (h : DataW.Trod enc Tryz.prog W 0 (fun _ => true) true 22 (.slice a n c) d p) : InInts W a n ∧ n ≤ maxLen := by
  obtain ⟨fuel, hf⟩ := h
  rcases open_ints Tryz.underlying22 Tryz.underlying3 cells_i64 hf with ⟨hcs, _⟩ | ⟨a', len', cap', zs, hcs, _, hl, hm, hz, _, hcell, hwz⟩
  · simp [Value.cells] at hcs
    obtain ⟨_, rfl, _⟩ := hcs
    exact ⟨.inl rfl, by unfold maxLen; omega⟩
  · simp [Value.cells] at hcs
    obtain ⟨rfl, rfl, rfl⟩ := hcs
    refine ⟨?_, by omega⟩
    simp only [if_true] at hz
    by_cases h0 : n = 0
    · exact .inl h0
    · obtain ⟨b, off, rfl, hc⟩ := ints_at hcell (by omega)
      refine .inr ⟨b, off, rfl, ?_, fun k hk => ⟨_, hc k (by omega)⟩⟩
      have := hc 0 (by omega)
      rcases Nat.lt_or_ge b W.heap.size with hlt | hge
      · exact hlt
      · simp [World.cell?, Array.getElem?_eq_none hge] at this

end Go.Proofs.YtkjjagmpnnnimaaGreatDoor
