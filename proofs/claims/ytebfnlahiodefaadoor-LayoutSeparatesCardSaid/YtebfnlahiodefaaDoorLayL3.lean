/- LayoutClosers: within closes exactly the block of its let, on the same line and on the next one. Condition: strconv.ErrRange holds an interface value. -/
import Derived.Test.YtebfnlahiodefaaDoorLayL2
import Derived.Test.YtebfnlahiodefaaDoorLayC
namespace Go.Proofs.YtebfnlahiodefaaDoor
open Go.RowKit M

theorem app_list (q : ByteArray) (a b : Bs) (c : ByteArray) (h : q.data.toList = a) (hc : c.data.toList = b) : (q ++ c).data.toList = a ++ b := by
  have : (q ++ c).data.toList = q.data.toList ++ c.data.toList := by simp
  rw [this, h, hc]
theorem of_list {q : ByteArray} {a : Bs} (h : q.data.toList = a) : q = S a := by rw [← h, S_of]

set_option maxRecDepth 100000 in
set_option maxHeartbeats 3200000 in
theorem closers_end (x : Nat) (bl : Bool) (hx : x < 20) (s : ByteArray) (hs : s.data.toList = clSrc x bl) (w : World) (hr : RangeVar w) :
    Calls Tryd.prog 37 #[.string s] w (fun e w' => ∃ (v : Value) (out : List Tok) (p : Int × Int), e = .returned (.tuple #[v, .agg #[.int .i64 p.1, .int .i64 p.2], .int .i64 0]) ∧ w'.ownsRow w.heap.size 25 5 v out.length (toksCells out) ∧
      kindsB out = clWant x bl ++ [67] ∧ out.length ≤ 100000 ∧ Below w.heap.size w w') := by
  have hsz : s.size ≤ 1000 := by
    have h1 : s.size = s.data.toList.length := by simp
    rw [h1, hs]
    unfold clSrc nestSrc letY withinY
    cases bl <;> simp <;> omega
  have hch := cl_one x hx bl
  have hl := insL_len (scan s.data.toList).1
  have hl2 := scan_length s.data.toList
  refine (lines_any s (by unfold maxLen; omega) w hr).mono ?_
  rintro e w' ⟨v, he, ho, hb⟩
  rw [hs] at he ho hl hl2
  unfold clChk at hch
  simp only [Bool.and_eq_true, beq_iff_eq] at hch
  rw [hch.1] at he
  exact ⟨v, (insL (scan (clSrc x bl)).1).1, (insL (scan (clSrc x bl)).1).2.1, he, ho, hch.2, by omega, hb⟩

set_option maxRecDepth 100000 in
set_option maxHeartbeats 6400000 in
theorem layoutClosers_core (n : Int) (bl : Bool) (hn0 : 0 ≤ n) (hn1 : n ≤ 255) (x : Nat) (hx : n % 20 = x) (w : World) (hr : RangeVar w) :
    Calls Tryd.prog 12 #[.int .u8 n, .bool bl] w fun e w' => e = .returned (.bool true) ∧ Below w.heap.size w w' := by
  have hx20 : x < 20 := by omega
  have HR := Lib.hid hr
  have HEND := Lib.hid (fun s hs W hr => closers_end x bl hx20 s hs W hr)
  clear hr
  go_enter Tryd.func12, Tryd.ntmps12
  go_wp2_with fail
  go_loop [6, 7, 8] (fun t6 t7 t8 => ∃ (k : Nat) (s u : ByteArray), k ≤ x ∧ t8 = .int .i64 k ∧ t6 = .string s ∧ t7 = .string u ∧ s.size ≤ 10 + 8 * k ∧ u.size ≤ 10 + 4 * k ∧ Hid (s.data.toList = nestSrc k) ∧ Hid (u.data.toList = opensK k)) (fun _ _ t8 => x - (intOf t8).toNat)
  case atStart => exact ⟨0, ⟨#[120, 32, 61, 32]⟩, ⟨#[79, 46, 46]⟩, by omega, rfl, rfl, rfl, by decide, by decide, rfl, rfl⟩
  case round =>
    obtain ⟨k, s, u, hk, rfl, rfl, rfl, hss, hus, hs, hu⟩ := hrel
    by_cases hlt : k < x
    · have hs2 : Hid ((s ++ ⟨#[108, 101, 116, 32, 121, 32, 61, 32]⟩).data.toList = nestSrc (k + 1)) := by unfold Hid nestSrc; rw [letY_next, ← List.append_assoc]; exact app_list _ _ _ _ hs.out rfl
      have hu2 : Hid ((u ++ ⟨#[46, 79, 46, 46]⟩).data.toList = opensK (k + 1)) := by unfold Hid; rw [opensK_next]; exact app_list _ _ _ _ hu.out rfl
      have hz1 : (s ++ ⟨#[108, 101, 116, 32, 121, 32, 61, 32]⟩).size ≤ 10 + 8 * (k + 1) := by rw [ByteArray.size_append]; show s.size + 8 ≤ _; omega
      have hz2 : (u ++ ⟨#[46, 79, 46, 46]⟩).size ≤ 10 + 4 * (k + 1) := by rw [ByteArray.size_append]; show u.size + 4 ≤ _; omega
      have HZ1 := Lib.hid hz1
      have HZ2 := Lib.hid hz2
      clear hz1 hz2
      go_wp2
      go_round
      case rel => exact ⟨k + 1, _, _, by omega, by go_num, rfl, rfl, HZ1.out, HZ2.out, hs2, hu2⟩
      case measure => simp [intOf]; omega
    · obtain rfl : k = x := by omega
      have hs2 : Hid ((s ++ ⟨#[122]⟩).data.toList = nestSrc k ++ [122] ++ withinY 0) := by unfold Hid; rw [show withinY 0 = [] from rfl, List.append_nil]; exact app_list _ _ _ _ hs.out rfl
      have hu2 : Hid ((u ++ ⟨#[46]⟩).data.toList = opensK k ++ [46] ++ closesK 0) := by unfold Hid; rw [show closesK 0 = [] from rfl, List.append_nil]; exact app_list _ _ _ _ hu.out rfl
      have hz1 : (s ++ ⟨#[122]⟩).size ≤ 200 := by rw [ByteArray.size_append]; show s.size + 1 ≤ _; omega
      have hz2 : (u ++ ⟨#[46]⟩).size ≤ 200 := by rw [ByteArray.size_append]; show u.size + 1 ≤ _; omega
      have HZ1 := Lib.hid hz1
      have HZ2 := Lib.hid hz2
      clear hz1 hz2
      go_wp2_with fail
      go_loop [6, 7, 9] (fun t6 t7 t9 => ∃ (j : Nat) (s u : ByteArray), j ≤ k ∧ t9 = .int .i64 j ∧ t6 = .string s ∧ t7 = .string u ∧ s.size ≤ 200 + 9 * j ∧ u.size ≤ 200 + 3 * j ∧ Hid (s.data.toList = nestSrc k ++ [122] ++ withinY j) ∧ Hid (u.data.toList = opensK k ++ [46] ++ closesK j)) (fun _ _ t9 => k - (intOf t9).toNat)
      case atStart => exact ⟨0, _, _, by omega, rfl, rfl, rfl, HZ1.out, HZ2.out, hs2, hu2⟩
      case round =>
        obtain ⟨j, s', u', hj, rfl, rfl, rfl, hss', hus', hs', hu'⟩ := hrel
        clear hs hu hs2 hu2 HZ1 HZ2
        by_cases hlj : j < k
        · have hs2 : Hid ((s' ++ ⟨#[32, 119, 105, 116, 104, 105, 110, 32, 121]⟩).data.toList = nestSrc k ++ [122] ++ withinY (j + 1)) := by unfold Hid; rw [withinY_next, ← List.append_assoc]; exact app_list _ _ _ _ hs'.out rfl
          have hu2 : Hid ((u' ++ ⟨#[67, 46, 46]⟩).data.toList = opensK k ++ [46] ++ closesK (j + 1)) := by unfold Hid; rw [closesK_next, ← List.append_assoc]; exact app_list _ _ _ _ hu'.out rfl
          have hz1 : (s' ++ ⟨#[32, 119, 105, 116, 104, 105, 110, 32, 121]⟩).size ≤ 200 + 9 * (j + 1) := by rw [ByteArray.size_append]; show s'.size + 9 ≤ _; omega
          have hz2 : (u' ++ ⟨#[67, 46, 46]⟩).size ≤ 200 + 3 * (j + 1) := by rw [ByteArray.size_append]; show u'.size + 3 ≤ _; omega
          have HZ1 := Lib.hid hz1
          have HZ2 := Lib.hid hz2
          clear hz1 hz2
          go_wp2
          go_round
          case rel => exact ⟨j + 1, _, _, by omega, by go_num, rfl, rfl, HZ1.out, HZ2.out, hs2, hu2⟩
          case measure => simp [intOf]; omega
        · obtain rfl : j = k := by omega
          cases bl
          · have hsrc : Hid (s'.data.toList = clSrc j false) := by unfold Hid clSrc; rw [hs'.out]; simp
            have hwant : Hid (u' ++ ⟨#[67]⟩ = S (clWant j false ++ [67])) := of_list (app_list _ _ _ _ (by unfold clWant; rw [hu'.out]; simp) rfl)
            clear hs' hu'
            go_wp2_with fail
            refine (HEND.out _ hsrc.out _ HR.out).mono ?_
            rintro e w1 ⟨v1, out, ⟨pa, pb⟩, rfl, ho1, hk1, hl1, hb1⟩
            obtain ⟨A1, c1, rfl⟩ := owns_form ho1
            have HO1 := Lib.hid ho1
            have HB1 := Lib.hid hb1
            have HK1 := Lib.hid hk1
            have hz1 := hb1.size
            have HR1 := Lib.hid (HR.out.below hb1)
            clear ho1 hb1 hk1
            go_wp2_with fail
            refine (awake2_any _ (HR1.out.alloc _)).mono ?_
            rintro e w2 ⟨rfl, hb2⟩
            have HB2 := Lib.hid hb2
            have hz2 := hb2.size
            simp at hz2
            have HI2 := Lib.hid ((InToks.own (HO1.out.alloc (.cells #[.int .i64 pa, .int .i64 pb] 23)) rfl).below hb2)
            clear hb2
            go_wp2_with fail
            refine (kinds_any _ _ _ _ _ rfl HI2.out (by omega)).mono ?_
            rw [HK1.out]
            rintro e w3 ⟨rfl, rfl⟩
            have hE := hwant.out
            generalize S (clWant j false ++ [67]) = q at *
            have g1 : (q.toList == (u' ++ ⟨#[67]⟩).toList) = true := by rw [hE]; simp
            clear hE hwant
            go_wp2
            go_ret
            exact ⟨rfl, (HB1.out.alloc hz1 _).trans (HB2.out.mono (by simp; omega))⟩
          · have hsrc : Hid ((s' ++ ⟨#[10, 119]⟩).data.toList = clSrc j true) := app_list _ _ _ _ hs'.out rfl
            have hwant : Hid ((u' ++ ⟨#[83, 46]⟩) ++ ⟨#[67]⟩ = S (clWant j true ++ [67])) := of_list (app_list _ _ _ _ (app_list _ _ _ _ hu'.out rfl) rfl)
            clear hs' hu'
            go_wp2_with fail
            refine (HEND.out _ hsrc.out _ HR.out).mono ?_
            rintro e w1 ⟨v1, out, ⟨pa, pb⟩, rfl, ho1, hk1, hl1, hb1⟩
            obtain ⟨A1, c1, rfl⟩ := owns_form ho1
            have HO1 := Lib.hid ho1
            have HB1 := Lib.hid hb1
            have HK1 := Lib.hid hk1
            have hz1 := hb1.size
            have HR1 := Lib.hid (HR.out.below hb1)
            clear ho1 hb1 hk1
            go_wp2_with fail
            refine (awake2_any _ (HR1.out.alloc _)).mono ?_
            rintro e w2 ⟨rfl, hb2⟩
            have HB2 := Lib.hid hb2
            have hz2 := hb2.size
            simp at hz2
            have HI2 := Lib.hid ((InToks.own (HO1.out.alloc (.cells #[.int .i64 pa, .int .i64 pb] 23)) rfl).below hb2)
            clear hb2
            go_wp2_with fail
            refine (kinds_any _ _ _ _ _ rfl HI2.out (by omega)).mono ?_
            rw [HK1.out]
            rintro e w3 ⟨rfl, rfl⟩
            have hE := hwant.out
            generalize S (clWant j true ++ [67]) = q at *
            have g1 : (q.toList == ((u' ++ ⟨#[83, 46]⟩) ++ ⟨#[67]⟩).toList) = true := by rw [hE]; simp
            clear hE hwant
            go_wp2
            go_ret
            exact ⟨rfl, (HB1.out.alloc hz1 _).trans (HB2.out.mono (by simp; omega))⟩

theorem layoutClosers_any (n : Int) (bl : Bool) (hn0 : 0 ≤ n) (hn1 : n ≤ 255) (w : World) (hr : RangeVar w) :
    Calls Tryd.prog 12 #[.int .u8 n, .bool bl] w fun e w' => e = .returned (.bool true) ∧ Below w.heap.size w w' :=
  layoutClosers_core n bl hn0 hn1 (n % 20).toNat (by omega) w hr

end Go.Proofs.YtebfnlahiodefaaDoor
