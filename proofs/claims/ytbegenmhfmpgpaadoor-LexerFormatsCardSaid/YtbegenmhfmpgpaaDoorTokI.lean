/- LexerFormats' walk: both formatters agree at one token and at the list. Conditions: the tokens lie in memory; the listed library variables hold what the program's text lays in them. -/
import Derived.Test.YtbegenmhfmpgpaaDoorTokH
import Derived.Test.YtbegenmhfmpgpaaDoorLayX3
import Derived.Test.YtbegenmhfmpgpaaDoorLexA
import Derived.Deep.RegionHeld3
import Derived.Deep.DrawnRows
namespace Go.Proofs.YtbegenmhfmpgpaaDoor
open Go.RowKit M
attribute [local go_sem ↓] Go.wp_at_zero Go.wp_at_succ

def BoxT (w : World) (g : Nat) (t : TR) (a b : Int) (T : TypeId) : Prop := w.heap[g]? = some (.cells #[.int .i64 t.kind, .int .i64 t.num, .string (S t.str), .int .i64 a, .int .i64 b] T (0, 0))
theorem BoxT.lt {w : World} {g : Nat} {t : TR} {a b : Int} {T : TypeId} (h : BoxT w g t a b T) : g < w.heap.size := by
  rcases Nat.lt_or_ge g w.heap.size with h' | h'
  · exact h'
  · unfold BoxT at h; simp [Array.getElem?_eq_none h'] at h
theorem BoxT.below {w w' : World} {g : Nat} {t : TR} {a b : Int} {T : TypeId} (h : BoxT w g t a b T) (hb : Below w.heap.size w w') : BoxT w' g t a b T :=
  (hb.block g h.lt).trans h
theorem BoxT.alloc {w : World} {g : Nat} {t : TR} {a b : Int} {T : TypeId} (h : BoxT w g t a b T) (o : Obj) : BoxT (w.alloc o) g t a b T := h.below ((Below.refl _ _).alloc (Nat.le_refl _) o)
theorem BoxT.toks {w : World} {g : Nat} {t : TR} {a b : Int} {T : TypeId} (h : BoxT w g t a b T) : InToks w (some ⟨g, 0, none⟩) [(t, (a, b))] := by
  refine .inr ⟨g, 0, rfl, h.lt, fun k u hu j v hv => ?_⟩
  match k, hu with
  | 0, hu =>
    injection (show some (t, (a, b)) = some u from hu) with hu
    subst hu
    rw [show 0 + 0 * 5 + j = j by omega, cell_of_row w g j _ _ _ h]
    have hv : [Value.int .i64 t.kind, .int .i64 t.num, .string (S t.str), .int .i64 a, .int .i64 b][j]? = some v := hv
    rw [← hv]
    rw [← Array.getElem?_toList]

/-- the five cells of the argument's box, and what lies below it -/
def SixAt (w : World) (t : TR) (a b : Int) (A : Option Addr) (us : List Tok) (W : World) : Prop :=
  W.cell? ⟨w.heap.size, 0, none⟩ = some (.int .i64 t.kind) ∧ W.cell? ⟨w.heap.size, 1, none⟩ = some (.int .i64 t.num) ∧ W.cell? ⟨w.heap.size, 2, none⟩ = some (.string (S t.str)) ∧
    W.cell? ⟨w.heap.size, 3, none⟩ = some (.int .i64 a) ∧ W.cell? ⟨w.heap.size, 4, none⟩ = some (.int .i64 b) ∧ Hid (w.heap.size < W.heap.size ∧ Below w.heap.size w W ∧ InToks W A us)
section
variable {w : World} {t : TR} {a b : Int} {A : Option Addr} {us : List Tok} {W W' : World}
theorem SixAt.below (h : SixAt w t a b A us W) (hb : Below W.heap.size W W') : SixAt w t a b A us W' := by
  obtain ⟨h0, h1, h2, h3, h4, h5, h6, h7⟩ := h
  exact ⟨(hb.cell (p := ⟨_, 0, none⟩) h5).trans h0, (hb.cell (p := ⟨_, 1, none⟩) h5).trans h1, (hb.cell (p := ⟨_, 2, none⟩) h5).trans h2, (hb.cell (p := ⟨_, 3, none⟩) h5).trans h3, (hb.cell (p := ⟨_, 4, none⟩) h5).trans h4,
    Nat.lt_of_lt_of_le h5 hb.size, h6.trans (hb.mono (Nat.le_of_lt h5)), h7.below hb⟩
theorem SixAt.alloc (h : SixAt w t a b A us W) (o : Obj) : SixAt w t a b A us (W.alloc o) := h.below ((Below.refl _ _).alloc (Nat.le_refl _) o)
theorem SixAt.drew (h : SixAt w t a b A us W) : SixAt w t a b A us W.drew := ⟨h.1, h.2.1, h.2.2.1, h.2.2.2.1, h.2.2.2.2.1, h.2.2.2.2.2.1, h.2.2.2.2.2.2.1.drew, h.2.2.2.2.2.2.2.drewN 1⟩
theorem SixAt.under (h : SixAt w t a b A us W) : Below w.heap.size w W := h.2.2.2.2.2.2.1
theorem SixAt.toks (h : SixAt w t a b A us W) : InToks W A us := h.2.2.2.2.2.2.2
theorem awake_held (hr : RangeVar w) (h : SixAt w t a b A us W) :
    Calls Tryd.prog 9 #[] W fun e w' => e = .returned (.bool true) ∧ SixAt w t a b A us w' ∧ Below W.heap.size W w' :=
  (awake_any W (hr.below h.under)).mono fun _ _ ⟨he, hw⟩ => ⟨he, h.below hw, hw⟩
theorem valid_held (ht : WideTok (t, (a, b))) (hr : RangeVar w) (h : SixAt w t a b A us W) :
    Calls Tryd.prog 10 #[tkV t a b] W fun e w' => e = .returned (.bool (valT t)) ∧ SixAt w t a b A us w' ∧ Below W.heap.size W w' :=
  (valid_any t a b (by have := ht.str; simp only at this; omega) W (hr.below h.under)).mono fun _ _ ⟨he, hw⟩ => ⟨he, h.below hw, hw⟩
theorem rvalid_held (ht : WideTok (t, (a, b))) (h : SixAt w t a b A us W) :
    Calls Tryd.prog 11 #[tkV t a b] W fun e w' => e = .returned (.bool (valT t)) ∧ SixAt w t a b A us w' ∧ Below W.heap.size W w' :=
  (rvalid_any t a b (by have := ht.str; simp only at this; omega) W).mono fun _ _ ⟨he, hw⟩ => ⟨he, h.below hw, hw⟩
theorem format_held (B : Option Addr) (n c : Nat) (ts : List Tok) (hr : RangeVar w) (hp : PowTab w) (hn : n = ts.length) (hm : ts.length ≤ 1000) (hw : ∀ t ∈ ts, WideTok t) (h : SixAt w t a b A us W) (hA : InToks W B ts) :
    Calls Tryd.prog 12 #[.slice B n c] W fun e w' => e = .returned (.string (S (fmtL (trs ts)))) ∧ SixAt w t a b A us w' ∧ Below W.heap.size W w' :=
  (format_any W B n c ts hn hA hm hw (hr.below h.under) (hp.below h.under)).mono fun _ _ ⟨he, hw⟩ => ⟨he, h.below hw, hw⟩
theorem rformat_held (B : Option Addr) (n c : Nat) (ts : List Tok) (hn : n = ts.length) (hm : ts.length ≤ 1000) (hw : ∀ t ∈ ts, WideTok t) (h : SixAt w t a b A us W) (hA : InToks W B ts) :
    Calls Tryd.prog 13 #[.slice B n c] W fun e w' => e = .returned (.string (S (fmtL (trs ts)))) ∧ SixAt w t a b A us w' ∧ Below W.heap.size W w' :=
  (rformat_any W B n c ts hn hA hm hw).mono fun _ _ ⟨he, hw⟩ => ⟨he, h.below hw, hw⟩
end

set_option maxRecDepth 100000 in
set_option maxHeartbeats 6400000 in
theorem lexerFormats_any (t : TR) (a b : Int) (ht : WideTok (t, (a, b))) (w : World) (A : Option Addr) (n c : Nat) (ts : List Tok) (hn : n = ts.length) (hA : InToks w A ts) (hw : ∀ t ∈ ts, WideTok t) (hr : RangeVar w) (hp : PowTab w) :
    Calls Tryd.prog 3 #[tkV t a b, .slice A n c] w fun e w' => e = .returned (.bool true) ∧ Below w.heap.size w w' := by
  have HA := Lib.hid hA
  have HW := Lib.hid hw
  have HR := Lib.hid hr
  have HP := Lib.hid hp
  have HN := Lib.hid hn
  have HT := Lib.hid ht
  clear hA hw hr hn hp ht
  go_enter Tryd.func3, Tryd.ntmps3
  go_wp2_with fail
  refine (someTokens_any _ A n c ts HN.out (HA.out.alloc _) HW.out).mono ?_
  rintro e w1 ⟨v1, us, rfl, ho1, hl1, hwu, hb1⟩
  obtain ⟨A3, c3, rfl⟩ := owns_form ho1
  have hX1 : BoxT w1 w.heap.size t a b 25 := BoxT.below (heap_alloc_new w _) hb1
  have hB1 : Below w.heap.size w w1 := ((Below.refl _ _).alloc (Nat.le_refl _) _).trans (hb1.mono (by simp))
  have x0 := cell_of_row _ _ 0 _ _ _ hX1
  have x1 := cell_of_row _ _ 1 _ _ _ hX1
  have x2 := cell_of_row _ _ 2 _ _ _ hX1
  have x3 := cell_of_row _ _ 3 _ _ _ hX1
  have x4 := cell_of_row _ _ 4 _ _ _ hX1
  simp at x0 x1 x2 x3 x4
  have x5 : Hid (w.heap.size < w1.heap.size ∧ Below w.heap.size w w1 ∧ InToks w1 A3 us) := ⟨hX1.lt, hB1, InToks.own ho1 rfl⟩
  have hs0 : SixAt w t a b A3 us w1 := ⟨x0, x1, x2, x3, x4, x5⟩
  have HVR := Lib.hid (fun W => rvalid_held (w := w) (t := t) (a := a) (b := b) (A := A3) (us := us) (W := W) HT.out)
  have HVA := Lib.hid (fun W => valid_held (w := w) (t := t) (a := a) (b := b) (A := A3) (us := us) (W := W) HT.out HR.out)
  have HAW := Lib.hid (fun W => awake_held (w := w) (t := t) (a := a) (b := b) (A := A3) (us := us) (W := W) HR.out)
  have HU := Lib.hid hwu
  have HL := Lib.hid hl1
  have HF1 := Lib.hid (fun W k h hA => format_held (w := w) (t := t) (a := a) (b := b) (A := A3) (us := us) (W := W) (some ⟨k, 0, none⟩) 1 1 [(t, (a, b))] HR.out HP.out rfl (by simp) (fun u hu => by rw [List.mem_singleton.1 hu]; exact HT.out) h hA)
  have HG1 := Lib.hid (fun W k h hA => rformat_held (w := w) (t := t) (a := a) (b := b) (A := A3) (us := us) (W := W) (some ⟨k, 0, none⟩) 1 1 [(t, (a, b))] rfl (by simp) (fun u hu => by rw [List.mem_singleton.1 hu]; exact HT.out) h hA)
  have HF2 := Lib.hid (fun W h => format_held (w := w) (t := t) (a := a) (b := b) (A := A3) (us := us) (W := W) A3 us.length c3 us HR.out HP.out rfl (by omega) hwu h h.toks)
  have HG2 := Lib.hid (fun W h => rformat_held (w := w) (t := t) (a := a) (b := b) (A := A3) (us := us) (W := W) A3 us.length c3 us rfl (by omega) hwu h h.toks)
  clear ho1 hb1 hwu hl1 hX1 hB1
  go_wp2_with fail
  obtain ⟨q1, hq1⟩ : ∃ q, S (fmtL (trs [(t, (a, b))])) = q := ⟨_, rfl⟩
  obtain ⟨q2, hq2⟩ : ∃ q, S (fmtL (trs us)) = q := ⟨_, rfl⟩
  rw [hq1] at HF1 HG1
  rw [hq2] at HF2 HG2
  go_wp2_with fail
  go_region_held3 (fun W => W.cell? ⟨w.heap.size, 0, none⟩ = some (.int .i64 t.kind) ∧ W.cell? ⟨w.heap.size, 1, none⟩ = some (.int .i64 t.num) ∧ W.cell? ⟨w.heap.size, 2, none⟩ = some (.string (S t.str)) ∧ W.cell? ⟨w.heap.size, 3, none⟩ = some (.int .i64 a) ∧ W.cell? ⟨w.heap.size, 4, none⟩ = some (.int .i64 b) ∧ Hid (w.heap.size < W.heap.size ∧ Below w.heap.size w W ∧ InToks W A3 us)) (first | exact hs0.drew | exact hs1 | exact hs2 | exact hs3 | exact hs3.alloc _ | exact (hs3.alloc _).alloc _ | exact hs4 | exact hs4.alloc _ | exact hs5 | exact hs6 | exact hs7) (first | (go_at_call 9; refine (HAW.out _ hs0.drew).mono ?_; rintro e w2 ⟨rfl, hs1, hb1⟩) | (go_at_call 10; refine (HVA.out _ hs1).mono ?_; rintro e w3 ⟨rfl, hs2, hb2⟩) | (go_at_call 11; refine (HVR.out _ hs2).mono ?_; rintro e w4 ⟨rfl, hs3, hb3⟩) | (go_at_call 12; refine (HF2.out _ hs5).mono ?_; rintro e w7 ⟨rfl, hs6, hb6⟩) | (go_at_call 13; refine (HG2.out _ hs6).mono ?_; rintro e w8 ⟨rfl, hs7, hb7⟩) | (go_at_call 12; refine (HF1.out _ _ ?_ ?_).mono ?_; (first | exact hs3.alloc _ | exact (hs3.alloc _).alloc _); (first | exact BoxT.toks (heap_alloc_new _ _) | exact BoxT.toks (BoxT.alloc (heap_alloc_new _ _) _) | exact BoxT.toks (heap_alloc2_new _ _ _)); rintro e w5 ⟨rfl, hs4, hb4⟩) | (go_at_call 13; refine (HG1.out _ _ ?_ ?_).mono ?_; (first | exact hs4 | exact hs4.alloc _); (first | exact BoxT.toks (heap_alloc_new _ _) | exact BoxT.toks (BoxT.below (BoxT.alloc (heap_alloc_new _ _) _) hb4) | exact BoxT.toks (BoxT.below (heap_alloc2_new _ _ _) hb4)); rintro e w6 ⟨rfl, hs5, hb5⟩))
  all_goals
    go_wp2
    go_ret
    exact ⟨rfl, hs7.under⟩

end Go.Proofs.YtbegenmhfmpgpaaDoor
