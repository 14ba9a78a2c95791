/- LayoutNests: lets are nested as deeply as permitted, and one more is the error of no capacity at the token that would begin the block. Condition: strconv.ErrRange holds an interface value. -/
import Derived.Test.YtebfnlahiodefaaDoorLayL3
import Derived.Test.YtebfnlahiodefaaDoorLayC4
namespace Go.Proofs.YtebfnlahiodefaaDoor
open Go.RowKit M

def NestPost (x : Nat) (w : World) (e : Ending) (w' : World) : Prop :=
  ∃ (v : Value) (out : List Tok) (p : Int × Int) (er : Int), e = .returned (.tuple #[v, .agg #[.int .i64 p.1, .int .i64 p.2], .int .i64 er]) ∧ w'.ownsRow w.heap.size 25 5 v out.length (toksCells out) ∧
    ((64 ≤ x ∧ p = (1, 513) ∧ er = 10) ∨ (x < 64 ∧ er = 0 ∧ balL out = true ∧ out.length = 5 + 5 * x)) ∧ Below w.heap.size w w'
theorem nests_end (x : Nat) (hx : x < 70) (s : ByteArray) (hs : s.data.toList = nestSrc x ++ [122]) (w : World) (hr : RangeVar w) :
    Calls Tryd.prog 37 #[.string s] w (NestPost x w) := by
  have hsz : s.size ≤ 1000 := by
    have h1 : s.size = s.data.toList.length := by simp
    rw [h1, hs]
    unfold nestSrc letY
    simp; omega
  have hch := nest_one x hx
  refine (lines_any s (by unfold maxLen; omega) w hr).mono ?_
  rintro e w' ⟨v, he, ho, hb⟩
  rw [hs] at he ho
  unfold nestChk at hch
  refine ⟨v, (insL (scan (nestSrc x ++ [122])).1).1, (insL (scan (nestSrc x ++ [122])).1).2.1, (insL (scan (nestSrc x ++ [122])).1).2.2, he, ho, ?_, hb⟩
  generalize insL (scan (nestSrc x ++ [122])).1 = R at *
  obtain ⟨out, p, er⟩ := R
  by_cases h : 64 ≤ x
  · rw [if_pos h] at hch
    left
    have hch := beq_iff_eq.1 hch
    injection hch with h1 h2
    exact ⟨h, h1, h2⟩
  · rw [if_neg h] at hch
    right
    simp only [Bool.and_eq_true, beq_iff_eq] at hch
    exact ⟨by omega, hch.1, hch.2.1, hch.2.2⟩

set_option maxRecDepth 100000 in
set_option maxHeartbeats 6400000 in
theorem layoutNests_core (n : Int) (hn0 : 0 ≤ n) (hn1 : n ≤ 255) (x : Nat) (hx : n % 70 = x) (w : World) (hr : RangeVar w) :
    Calls Tryd.prog 11 #[.int .u8 n] w fun e w' => e = .returned (.bool true) ∧ Below w.heap.size w w' := by
  have hx70 : x < 70 := by omega
  have HR := Lib.hid hr
  have HEND := Lib.hid (fun s hs W hr => nests_end x hx70 s hs W hr)
  clear hr
  go_enter Tryd.func11, Tryd.ntmps11
  go_wp2_with fail
  go_loop [4, 5] (fun t4 t5 => ∃ (k : Nat) (s : ByteArray), k ≤ x ∧ t5 = .int .i64 k ∧ t4 = .string s ∧ s.size ≤ 10 + 8 * k ∧ Hid (s.data.toList = nestSrc k)) (fun _ t5 => x - (intOf t5).toNat)
  case atStart => exact ⟨0, ⟨#[120, 32, 61, 32]⟩, by omega, rfl, rfl, by decide, rfl⟩
  case round =>
    obtain ⟨k, s, hk, rfl, rfl, hss, hs⟩ := hrel
    by_cases hlt : k < x
    · have hs2 : Hid ((s ++ ⟨#[108, 101, 116, 32, 121, 32, 61, 32]⟩).data.toList = nestSrc (k + 1)) := by unfold Hid nestSrc; rw [letY_next, ← List.append_assoc]; exact app_list _ _ _ _ hs.out rfl
      have hz1 : (s ++ ⟨#[108, 101, 116, 32, 121, 32, 61, 32]⟩).size ≤ 10 + 8 * (k + 1) := by rw [ByteArray.size_append]; show s.size + 8 ≤ _; omega
      have HZ1 := Lib.hid hz1
      clear hz1
      go_wp2
      go_round
      case rel => exact ⟨k + 1, _, by omega, by go_num, rfl, HZ1.out, hs2⟩
      case measure => simp [intOf]; omega
    · obtain rfl : k = x := by omega
      have hsrc : Hid ((s ++ ⟨#[122]⟩).data.toList = nestSrc k ++ [122]) := app_list _ _ _ _ hs.out rfl
      clear hs
      go_wp2_with fail
      refine (HEND.out _ hsrc.out _ HR.out).mono ?_
      rintro e w1 ⟨v1, out, ⟨pa, pb⟩, er, rfl, ho1, hcase, hb1⟩
      obtain ⟨A1, c1, rfl⟩ := owns_form ho1
      have HO1 := Lib.hid ho1
      have HB1 := Lib.hid hb1
      have hz1 := hb1.size
      have HR1 := Lib.hid (HR.out.below hb1)
      clear ho1 hb1
      rcases hcase with ⟨h64, hp, rfl⟩ | ⟨h64, rfl, hbal, hlen⟩
      · injection hp with hp1 hp2
        subst hp1 hp2
        go_wp2_with fail
        refine (awake2_any _ (HR1.out.alloc _)).mono ?_
        rintro e w2 ⟨rfl, hb2⟩
        have HB2 := Lib.hid hb2
        have hz2 := hb2.size
        simp at hz2
        have y0 : w2.cell? ⟨w1.heap.size, 0, none⟩ = some (.int .i64 1) := (hb2.cell (p := ⟨w1.heap.size, 0, none⟩) (by simp)).trans (cell_of_row _ _ 0 _ _ _ (heap_alloc_new w1 _))
        have y1 : w2.cell? ⟨w1.heap.size, 1, none⟩ = some (.int .i64 513) := (hb2.cell (p := ⟨w1.heap.size, 1, none⟩) (by simp)).trans (cell_of_row _ _ 1 _ _ _ (heap_alloc_new w1 _))
        clear hb2
        go_wp2
        go_ret
        exact ⟨rfl, (HB1.out.alloc hz1 _).trans (HB2.out.mono (by simp; omega))⟩
      · have HBAL := Lib.hid hbal
        have HLEN := Lib.hid hlen
        have hol : out.length ≤ 1000 := by omega
        clear hbal hlen
        go_wp2_with fail
        refine (awake2_any _ (HR1.out.alloc _)).mono ?_
        rintro e w2 ⟨rfl, hb2⟩
        have HB2 := Lib.hid hb2
        have hz2 := hb2.size
        simp at hz2
        have HI2 := Lib.hid ((InToks.own (HO1.out.alloc (.cells #[.int .i64 pa, .int .i64 pb] 23)) rfl).below hb2)
        clear hb2
        go_wp2_with fail
        refine (balanced_any _ _ _ _ _ rfl HI2.out (by omega)).mono ?_
        rw [HBAL.out]
        rintro e w3 ⟨rfl, hb3⟩
        have HB3 := Lib.hid hb3
        have hz3 := hb3.size
        have g1 : ((out.length : Int) == 3 + 3 * (k : Int) + 2 + 2 * (k : Int)) = true := beq_iff_eq.2 (by have := HLEN.out; omega)
        clear hb3
        go_wp2
        go_ret
        exact ⟨rfl, ((HB1.out.alloc hz1 _).trans (HB2.out.mono (by simp; omega))).trans (HB3.out.mono (by omega))⟩

theorem layoutNests_any (n : Int) (hn0 : 0 ≤ n) (hn1 : n ≤ 255) (w : World) (hr : RangeVar w) :
    Calls Tryd.prog 11 #[.int .u8 n] w fun e w' => e = .returned (.bool true) ∧ Below w.heap.size w w' :=
  layoutNests_core n hn0 hn1 (n % 70).toNat (by omega) w hr

end Go.Proofs.YtebfnlahiodefaaDoor
