/- LexerComments: comments of the second form are closed by as many closing marks as they have opening ones. -/
import Derived.Test.YtcgihgfajahogaaDoorLexE
namespace Go.Proofs.YtcgihgfajahogaaDoor
open Go.RowKit M

/-- the statement's source: openings, closings, b -/
def comOpen (o : Nat) : Bs := (List.replicate o [123, 45, 32, 97, 32]).flatten
def comShut (t : Nat) : Bs := (List.replicate t [45, 125, 32]).flatten
def comSrc (o t : Nat) : Bs := comOpen o ++ comShut t ++ [98]
def comChk (o t : Nat) : Bool :=
  if t < o then (scan (comSrc o t)).1.isEmpty && (scan (comSrc o t)).2.1 == (1, 1) && (scan (comSrc o t)).2.2 == 2
  else if t = o then (scan (comSrc o t)).2.2 == 0 && ((scan (comSrc o t)).1.map fun t => t.1.str) == [[98]]
  else true
theorem com_all : ((List.range 20).all fun x => (List.range 20).all fun y => comChk (x + 1) y) = true := by kernel_rfl
theorem com_one (x y : Nat) (hx : x < 20) (hy : y < 20) : comChk (x + 1) y = true :=
  List.all_eq_true.1 (List.all_eq_true.1 com_all x (by simpa using hx)) y (by simpa using hy)

theorem comOpen_next (k : Nat) : comOpen (k + 1) = comOpen k ++ [123, 45, 32, 97, 32] := by
  unfold comOpen; rw [List.replicate_succ', List.flatten_append]; rfl
theorem comShut_next (k : Nat) : comShut (k + 1) = comShut k ++ [45, 125, 32] := by
  unfold comShut; rw [List.replicate_succ', List.flatten_append]; rfl
theorem toList_append (a b : ByteArray) : (a ++ b).data.toList = a.data.toList ++ b.data.toList := by simp

theorem single_tok (ts : List Tok) (x : Bs) (h : (ts.map fun t => t.1.str) = [x]) : ∃ t0, ts = [t0] ∧ t0.1.str = x := by
  cases ts with
  | nil => simp at h
  | cons t r =>
    cases r with
    | nil => exact ⟨t, rfl, by simpa using h⟩
    | cons => simp at h

theorem agrees_all' (s : ByteArray) (hx : s.size ≤ maxLen) (w : World) (hr : RangeVar w) :
    Calls Tryd.prog 13 #[.string s] w fun e w' => e = .returned (.bool true) ∧ Below w.heap.size w w' :=
  agrees_any s hx w hr (scan_length _)

set_option maxRecDepth 100000 in
set_option maxHeartbeats 2000000 in
theorem lexerComments_core (n m : Int) (hn0 : 0 ≤ n) (hn1 : n ≤ 255) (hm0 : 0 ≤ m) (hm1 : m ≤ 255) (x y : Nat) (hx : n % 20 = x) (hy : m % 20 = y) (w : World) (hr : RangeVar w) :
    Calls Tryd.prog 11 #[.int .u8 n, .int .u8 m] w fun e w' => e = .returned (.bool true) ∧ Below w.heap.size w w' := by
  have hx20 : x < 20 := by omega
  have hy20 : y < 20 := by omega
  have HCH := Lib.hid (com_one x y hx20 hy20)
  have HR := Lib.hid hr
  clear hr
  go_enter Tryd.func11, Tryd.ntmps11
  go_wp2
  go_loop [7, 8] (fun t7 t8 => ∃ (k : Nat) (t : ByteArray), k ≤ x + 1 ∧ t8 = .int .i64 k ∧ t7 = .string t ∧ t.size ≤ 5 * k ∧ Hid (t.data.toList = comOpen k)) (fun _ t8 => x + 1 - (intOf t8).toNat)
  case atStart => exact ⟨0, ⟨#[]⟩, by omega, rfl, rfl, by decide, rfl⟩
  case round =>
    obtain ⟨k, t, hk, rfl, rfl, hts, ht⟩ := hrel
    by_cases hlt : k < x + 1
    · have ht2 : Hid ((t ++ ⟨#[123, 45, 32, 97, 32]⟩).data.toList = comOpen (k + 1)) := by unfold Hid; rw [toList_append, ht.out, comOpen_next]
      have hsz : (t ++ ⟨#[123, 45, 32, 97, 32]⟩).size ≤ 5 * (k + 1) := by rw [ByteArray.size_append]; have : (⟨#[123, 45, 32, 97, 32]⟩ : ByteArray).size = 5 := rfl; omega
      have HSZ := Lib.hid hsz
      clear hsz
      go_wp2
      go_round
      case rel => exact ⟨k + 1, _, by omega, by go_num, rfl, HSZ.out, ht2⟩
      case measure => simp [intOf]; omega
    · obtain rfl : k = x + 1 := by omega
      go_wp2
      go_loop [7, 9] (fun t7 t9 => ∃ (j : Nat) (u : ByteArray), j ≤ y ∧ t9 = .int .i64 j ∧ t7 = .string u ∧ u.size ≤ 100 + 3 * j ∧ Hid (u.data.toList = comOpen (x + 1) ++ comShut j)) (fun _ t9 => y - (intOf t9).toNat)
      case atStart => exact ⟨0, t, by omega, rfl, rfl, by omega, by unfold Hid; rw [ht.out]; exact (List.append_nil _).symm⟩
      case round =>
        obtain ⟨j, u, hj, rfl, rfl, hus, hu⟩ := hrel
        by_cases hlj : j < y
        · have hu2 : Hid ((u ++ ⟨#[45, 125, 32]⟩).data.toList = comOpen (x + 1) ++ comShut (j + 1)) := by unfold Hid; rw [toList_append, hu.out, comShut_next, List.append_assoc]
          have hsz : (u ++ ⟨#[45, 125, 32]⟩).size ≤ 100 + 3 * (j + 1) := by rw [ByteArray.size_append]; have : (⟨#[45, 125, 32]⟩ : ByteArray).size = 3 := rfl; omega
          have HSZ := Lib.hid hsz
          clear hsz
          go_wp2
          go_round
          case rel => exact ⟨j + 1, _, by omega, by go_num, rfl, HSZ.out, hu2⟩
          case measure => simp [intOf]; omega
        · obtain rfl : j = y := by omega
          have hsrc : (u ++ ⟨#[98]⟩).data.toList = comSrc (x + 1) j := by rw [toList_append, hu.out]; rfl
          have hsz : (u ++ ⟨#[98]⟩).size ≤ 300 := by rw [ByteArray.size_append]; have : (⟨#[98]⟩ : ByteArray).size = 1 := rfl; omega
          have H1 := fun W h => scan_any (u ++ ⟨#[98]⟩) (by unfold maxLen; omega) W h
          rw [hsrc] at H1
          have HAG := Lib.hid (fun W h => agrees_all' (u ++ ⟨#[98]⟩) (by unfold maxLen; omega) W h)
          have hch := HCH.out
          unfold comChk at hch
          generalize scan (comSrc (x + 1) j) = R at H1 hch
          obtain ⟨ts, ⟨a, b⟩, er⟩ := R
          have HS1 := Lib.hid H1
          clear H1 hsz hsrc hts
          have hcase : (j < x + 1 ∧ ts = [] ∧ a = 1 ∧ b = 1 ∧ er = 2) ∨ (j = x + 1 ∧ er = 0 ∧ ts.map (fun t => t.1.str) = [[98]]) ∨ (x + 1 < j) := by
            by_cases c1 : j < x + 1
            · rw [if_pos c1] at hch
              simp at hch
              exact .inl ⟨c1, hch.1.1, hch.1.2.1, hch.1.2.2, hch.2⟩
            · rw [if_neg c1] at hch
              by_cases c2 : j = x + 1
              · rw [if_pos c2] at hch
                simp at hch
                exact .inr (.inl ⟨c2, hch.1, by simpa using hch.2⟩)
              · exact .inr (.inr (by omega))
          clear hch
          rcases hcase with ⟨hjx, rfl, rfl, rfl, rfl⟩ | ⟨hjx, rfl, hts⟩ | hjx
          · go_wp2_with fail
            refine (HS1.out _ HR.out).mono ?_
            rintro e w1 ⟨v, rfl, ho, hb⟩
            obtain ⟨A, c, rfl⟩ := owns_form ho
            have HR1 : Hid (RangeVar w1) := HR.out.below hb
            have HB1 := Lib.hid hb
            have hs1 := hb.size
            clear ho hb
            go_wp2_with fail
            refine (awake_any _ (HR1.out.alloc _)).mono ?_
            rintro e w2 ⟨rfl, hb2⟩
            have HR2 : Hid (RangeVar w2) := (HR1.out.alloc _).below hb2
            have HB2 : Hid (Below w.heap.size w w2) := (HB1.out.alloc hs1 _).trans (hb2.mono (by simp; omega))
            have hz2 : w1.heap.size + 1 ≤ w2.heap.size := by have := hb2.size; simp at this; omega
            have HBB2 := Lib.hid hb2
            clear hb2
            go_wp2_with fail
            refine (awake_any _ HR2.out).mono ?_
            rintro e w3 ⟨rfl, hb3⟩
            have HB3 : Hid (Below w.heap.size w w3) := HB2.out.trans (hb3.mono HB2.out.size)
            have k0 : w3.cell? ⟨w1.heap.size, 0, none⟩ = some (.int .i64 1) := (hb3.cell (p := ⟨w1.heap.size, 0, none⟩) (by show w1.heap.size < _; omega)).trans ((HBB2.out.cell (p := ⟨w1.heap.size, 0, none⟩) (by simp)).trans (cell_of_row _ _ 0 _ _ _ (heap_alloc_new w1 _)))
            have k1 : w3.cell? ⟨w1.heap.size, 1, none⟩ = some (.int .i64 1) := (hb3.cell (p := ⟨w1.heap.size, 1, none⟩) (by show w1.heap.size < _; omega)).trans ((HBB2.out.cell (p := ⟨w1.heap.size, 1, none⟩) (by simp)).trans (cell_of_row _ _ 1 _ _ _ (heap_alloc_new w1 _)))
            clear hb3
            go_wp2
            go_ret
            exact ⟨rfl, HB3.out⟩
          · obtain ⟨t0, rfl, ht0⟩ := single_tok ts [98] hts
            obtain ⟨⟨kd, nu, st, er⟩, p⟩ := t0
            simp only at ht0
            subst ht0
            clear hts
            go_wp2_with fail
            refine (HS1.out _ HR.out).mono ?_
            rintro e w1 ⟨v, rfl, ho, hb⟩
            obtain ⟨g, c, rfl, hg1, hg2, hc, hcells⟩ := owns_cell ho (by simp)
            have HR1 : Hid (RangeVar w1) := HR.out.below hb
            have HB1 := Lib.hid hb
            have hs1 := hb.size
            have k2 : w1.cell? ⟨g, 2, none⟩ = some (.string ⟨#[98]⟩) := hcells 2 _ rfl
            clear ho hb hcells
            go_wp2_with fail
            refine (awake_any _ (HR1.out.alloc _)).mono ?_
            rintro e w2 ⟨rfl, hb2⟩
            have HR2 : Hid (RangeVar w2) := (HR1.out.alloc _).below hb2
            have HB2 : Hid (Below w.heap.size w w2) := (HB1.out.alloc hs1 _).trans (hb2.mono (by simp; omega))
            have hz2 : w1.heap.size + 1 ≤ w2.heap.size := by have := hb2.size; simp at this; omega
            have k3 : w2.cell? ⟨g, 2, none⟩ = some (.string ⟨#[98]⟩) := (hb2.cell (p := ⟨g, 2, none⟩) (by simp; omega)).trans ((((Below.refl w1.heap.size w1).alloc (Nat.le_refl _) _).cell (p := ⟨g, 2, none⟩) hg2).trans k2)
            clear hb2 k2
            go_wp2
            go_ret
            exact ⟨rfl, HB2.out⟩
          · go_wp2_with fail
            refine (HS1.out _ HR.out).mono ?_
            rintro e w1 ⟨v, rfl, ho, hb⟩
            have HR1 : Hid (RangeVar w1) := HR.out.below hb
            have HB1 := Lib.hid hb
            have hs1 := hb.size
            clear ho hb
            go_wp2_with fail
            refine (awake_any _ (HR1.out.alloc _)).mono ?_
            rintro e w2 ⟨rfl, hb2⟩
            have HR2 : Hid (RangeVar w2) := (HR1.out.alloc _).below hb2
            have HB2 : Hid (Below w.heap.size w w2) := (HB1.out.alloc hs1 _).trans (hb2.mono (by simp; omega))
            have hz2 : w1.heap.size + 1 ≤ w2.heap.size := by have := hb2.size; simp at this; omega
            clear hb2
            go_wp2_with fail
            refine (HAG.out _ HR2.out).mono ?_
            rintro e w3 ⟨rfl, hb3⟩
            have HB3 : Hid (Below w.heap.size w w3) := HB2.out.trans (hb3.mono HB2.out.size)
            clear hb3
            go_wp2
            go_ret
            exact ⟨rfl, HB3.out⟩

theorem lexerComments_any (n m : Int) (hn0 : 0 ≤ n) (hn1 : n ≤ 255) (hm0 : 0 ≤ m) (hm1 : m ≤ 255) (w : World) (hr : RangeVar w) :
    Calls Tryd.prog 11 #[.int .u8 n, .int .u8 m] w fun e w' => e = .returned (.bool true) ∧ Below w.heap.size w w' :=
  lexerComments_core n m hn0 hn1 hm0 hm1 (n % 20).toNat (m % 20).toNat (by omega) (by omega) w hr

end Go.Proofs.YtcgihgfajahogaaDoor
