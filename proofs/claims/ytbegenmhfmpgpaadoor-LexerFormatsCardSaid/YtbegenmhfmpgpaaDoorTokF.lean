/- The program's Format and the reference's: the texts of valid tokens with spaces between them. Conditions: at most 1000 tokens that lie in memory; the library's tables. -/
import Derived.Test.YtbegenmhfmpgpaaDoorTokN
import Derived.Test.YtbegenmhfmpgpaaDoorTokW
import Derived.Test.YtbegenmhfmpgpaaDoorLayW6
import Derived.Test.YtbegenmhfmpgpaaDoorLayX1
import Derived.Test.YtbegenmhfmpgpaaDoorLayO3
import Derived.Test.YtbegenmhfmpgpaaDoorShelf2
import Derived.Lib.LaidTab
namespace Go.Proofs.YtbegenmhfmpgpaaDoor
open Go.RowKit M

/-- the table of the powers of ten -/
def PowTab (w : World) : Prop := Lib.TabIs Tryd.prog w "internal/strconv.uint64pow10" .u64 Lib.pow10Tab
theorem global_pow : Tryd.prog.globalNamed "internal/strconv.uint64pow10" = some 0 := by kernel_rfl
theorem PowTab.lt {w : World} (h : PowTab w) : 0 < w.heap.size := by
  unfold PowTab Lib.TabIs at h
  rcases Nat.lt_or_ge 0 w.heap.size with hlt | hge
  · exact hlt
  · unfold World.var? at h
    simp [global_pow, Array.getElem?_eq_none hge] at h
theorem PowTab.below {w w' : World} (h : PowTab w) (hb : Below w.heap.size w w') : PowTab w' := by
  have hl := h.lt
  unfold PowTab Lib.TabIs World.var? at h ⊢
  simp only [global_pow, Option.bind_some] at h ⊢
  rw [hb.block _ hl]
  exact h
theorem PowTab.alloc {w : World} (h : PowTab w) (o : Obj) : PowTab (w.alloc o) := h.below ((Below.refl _ _).alloc (Nat.le_refl _) _)
theorem type_pow : (Tryd.prog.globals[0]?).map (·.type) = some 125 := by kernel_rfl
theorem powTab_of_laid {W : World} (h : laidMetH Tryd.prog laidAll W) : PowTab W := by
  have h1 : laidMet Tryd.prog laidAll W := by rw [MakeChecks.laidMetH_plain _ _ _ (by kernel_rfl)] at h; exact h
  have h2 := laidMet.tail (laidMet.tail (show laidMet Tryd.prog (_ :: _ :: ("internal/strconv.uint64pow10", Lib.tabData .u64 Lib.pow10Tab) :: _) W from h1))
  exact Lib.tabIs_of_head global_pow type_pow Tryd.underlying125 Tryd.underlying117 (by kernel_rfl) (by kernel_rfl) h2
theorem below_grow (w : World) (q : Nat) (os : Array Obj) : Below w.heap.size w (Go.Sort.grow (w.drewN q) os) := by
  refine ⟨rfl, rfl, rfl, ?_, fun k hk => ?_⟩
  · show w.heap.size ≤ (w.heap ++ os).size
    rw [Array.size_append]; omega
  · show (w.heap ++ os)[k]? = _
    rw [Array.getElem?_append_left hk]

set_option maxRecDepth 100000 in
set_option maxHeartbeats 3200000 in
theorem text_any (t : TR) (a b : Int) (h0 : t.kind = 2 → 0 ≤ t.num) (h1 : t.num ≤ 9223372036854775807) (w : World) (hp : PowTab w) :
    Calls Tryd.prog 33 #[tkV t a b] w fun e w' => e = .returned (.string (S (textB t))) ∧ Below w.heap.size w w' := by
  obtain ⟨k, num, st, er⟩ := t
  show Calls _ _ #[.agg #[.int .i64 k, .int .i64 num, .string (S st), .int .i64 a, .int .i64 b]] _ _
  simp only at h0 h1
  by_cases h2 : k = 2
  · subst h2
    obtain ⟨n, rfl⟩ : ∃ n : Nat, num = n := ⟨num.toNat, by have := h0 rfl; omega⟩
    have HF := Lib.hid (fun W hW => Tryd.strconv_FormatInt_10 (n : Int) (by omega) h1 W hW)
    rw [decB_itoa n (by omega)] at HF
    have hV : Hid (textB ⟨2, (n : Int), st, er⟩ = decB n) := rfl
    have HP := Lib.hid (hp.alloc (.cells #[.int .i64 2, .int .i64 (n : Int), .string (S st), .int .i64 a, .int .i64 b] 25))
    generalize textB ⟨2, (n : Int), st, er⟩ = V at *
    generalize decB n = D at *
    clear h0 hp
    go_enter Tryd.func33, Tryd.ntmps33
    go_wp2_with fail
    refine (HF.out _ HP.out).mono ?_
    rintro e w1 ⟨rfl, q, os, rfl⟩
    go_wp2_with fail
    go_ret
    exact ⟨by rw [hV.out]; rfl, ((Below.refl _ _).alloc (Nat.le_refl _) _).trans ((below_grow _ q os).mono (by simp))⟩
  · have g1 : (k == 2) = false := beq_eq_false_iff_ne.2 h2
    have hV : Hid (textB ⟨k, num, st, er⟩ = st) := by show textB _ = _; unfold textB; rw [if_neg h2]
    generalize textB ⟨k, num, st, er⟩ = V at *
    clear h0 h2 hp
    go_enter Tryd.func33, Tryd.ntmps33
    go_wp2_with fail
    go_ret
    exact ⟨by rw [hV.out]; rfl, (Below.refl _ _).alloc (Nat.le_refl _) _⟩

theorem IsB.below {B b : Nat} {bs : List Value} {w w' : World} (h : IsB B b bs w) (hb : Below w.heap.size w w') : IsB B b bs w' := by
  have one : ∀ p, BAtB B b p bs w → BAtB B b p bs w' := by
    rintro p ⟨hB, v, hbk, hown, hne⟩
    have hlt : b < w.heap.size := by
      rcases Nat.lt_or_ge b w.heap.size with h' | h'
      · exact h'
      · simp [Array.getElem?_eq_none h'] at hbk
    exact ⟨hB, v, by rw [hb.block b hlt]; exact hbk, owns_below hown hb, hne⟩
  exact h.imp (one _) (one _)
theorem strCells_S (l : Bs) : Lib.strCells (S l) = Lib.byteCells l := by simp [Lib.strCells, Lib.byteCells]
theorem byteCells_app (a b : Bs) : Lib.byteCells a ++ Lib.byteCells b = Lib.byteCells (a ++ b) := by simp [Lib.byteCells]
theorem val_num (t : TR) (hv : valT t = true) : t.kind = 2 → 0 ≤ t.num := by
  intro h2
  have hr : rvalT t = true := by rw [rval_eq]; exact hv
  unfold rvalT at hr
  rw [if_neg (by rw [h2]; decide), if_pos h2] at hr
  simp only [Bool.and_eq_true, decide_eq_true_eq] at hr
  exact hr.1
def trs (ts : List Tok) : List TR := ts.map (·.1)
theorem trs_step (ts : List Tok) (k : Nat) (t : Tok) (ht : ts[k]? = some t) : trs (ts.take (k + 1)) = trs (ts.take k) ++ [t.1] := by
  unfold trs
  rw [List.take_add_one, ht, List.map_append]; rfl
theorem fmt_step (ts : List Tok) (k : Nat) (t : Tok) (ht : ts[k]? = some t) : fmtB (trs (ts.take (k + 1))) = (if k = 0 then [] else fmtB (trs (ts.take k)) ++ [32]) ++ textB t.1 := by
  rw [trs_step ts k t ht, fmt_snoc]
  congr 1
  have hk : k < ts.length := (List.getElem?_eq_some_iff.1 ht).1
  by_cases h0 : k = 0
  · subst h0; rfl
  · rw [if_neg h0, if_neg]
    intro q
    have : (trs (ts.take k)).length = 0 := by rw [q]; rfl
    unfold trs at this
    rw [List.length_map, List.length_take] at this
    omega
theorem fmtL_bad {ts : List Tok} {t : Tok} (h : t ∈ ts) (hv : valT t.1 = false) : fmtL (trs ts) = [] := by
  unfold fmtL
  rw [if_neg]
  intro q
  have := List.all_eq_true.1 q t.1 (List.mem_map.2 ⟨t, h, rfl⟩)
  rw [hv] at this; cases this
theorem fmtL_good {ts : List Tok} (h : ∀ t ∈ ts, valT t.1 = true) : fmtL (trs ts) = fmtB (trs ts) := by
  unfold fmtL
  rw [if_pos]
  refine List.all_eq_true.2 fun x hx => ?_
  obtain ⟨t, ht, rfl⟩ := List.mem_map.1 hx
  exact h t ht
theorem take_mem {ts : List Tok} {k : Nat} {t : Tok} {P : Tok → Prop} (h : ∀ u ∈ ts.take k, P u) (ht : ts[k]? = some t) (hp : P t) : ∀ u ∈ ts.take (k + 1), P u := by
  intro u hu
  rw [List.take_add_one, ht] at hu
  rcases List.mem_append.1 hu with hu | hu
  · exact h u hu
  · simp at hu; subst hu; exact hp

def FmtPost (ts : List Tok) (w : World) (e : Ending) (w' : World) : Prop := e = .returned (.string (S (fmtL (trs ts)))) ∧ Below w.heap.size w w'

set_option maxRecDepth 100000 in
set_option maxHeartbeats 6400000 in
theorem format_any (w : World) (A : Option Addr) (n c : Nat) (ts : List Tok) (hn : n = ts.length) (hA : InToks w A ts) (hm : ts.length ≤ 1000) (hw : ∀ t ∈ ts, WideTok t) (hr : RangeVar w) (hp : PowTab w) :
    Calls Tryd.prog 12 #[.slice A n c] w (FmtPost ts w) := by
  have HA := Lib.hid hA
  have HW := Lib.hid hw
  have HR := Lib.hid hr
  have HP := Lib.hid hp
  subst hn
  clear hA hw hr hp
  go_enter Tryd.func12, Tryd.ntmps12
  go_wp2_with fail
  go_loopw [8] (fun i wr => ∃ k : Nat, i = .int .i64 k ∧ k ≤ ts.length ∧ Hid (IsB w.heap.size w.heap.size (Lib.byteCells (fmtB (trs (ts.take k)))) wr) ∧ Hid (∀ u ∈ ts.take k, valT u.1 = true) ∧ Hid (Below w.heap.size w wr)) (fun i _ => ts.length - (intOf i).toNat)
  case atStart => exact ⟨0, rfl, by omega, Lib.fresh_isBuilder _ _ _, fun u hu => by simp at hu, (Below.refl _ _).alloc (Nat.le_refl _) _⟩
  case round =>
    obtain ⟨k, rfl, hk, hI, hV, hB⟩ := hrel
    by_cases hlt : k < ts.length
    · obtain ⟨⟨t, a, b⟩, ht⟩ : ∃ t, ts[k]? = some t := ⟨ts[k], List.getElem?_eq_getElem hlt⟩
      have hmem := List.mem_of_getElem? ht
      have hwt := HW.out _ hmem
      have hn1 : t.num ≤ 9223372036854775807 := hwt.num1
      have hst : t.str.length ≤ 140737488355328 := by have := hwt.str; simp only at this; omega
      have HT := Lib.hid ht
      have HVA : Hid (∀ W, RangeVar W → Calls Tryd.prog 10 #[tkV t a b] W fun e w' => e = .returned (.bool (valT t)) ∧ Below W.heap.size W w') := fun W hW => valid_any t a b hst W hW
      have hHI := HA.out.below hB.out
      rcases hHI with hnil | ⟨bb, off, rfl, hbb, hcell⟩
      · rw [hnil] at hlt; simp at hlt
      have x0 := hcell _ _ ht 0 _ rfl
      have x1 := hcell _ _ ht 1 _ rfl
      have x2 := hcell _ _ ht 2 _ rfl
      have x3 := hcell _ _ ht 3 _ rfl
      have x4 := hcell _ _ ht 4 _ rfl
      simp only [Nat.add_zero] at x0
      clear hcell ht hwt hst
      go_wp2_with fail
      refine (HVA.out _ ((HR.out.below hB.out).alloc _)).mono ?_
      rintro e w1 ⟨rfl, hb1⟩
      have HB1 : Hid (Below w.heap.size w w1) := (hB.out.alloc hB.out.size _).trans (hb1.mono (by have := hB.out.size; simp; omega))
      have HI1 : Hid (IsB w.heap.size w.heap.size (Lib.byteCells (fmtB (trs (ts.take k)))) w1) := IsB.below hI.out (((Below.refl _ _).alloc (Nat.le_refl _) _).trans (hb1.mono (by simp)))
      have y0 : w1.cell? ⟨wr.heap.size, 0, none⟩ = some (.int .i64 t.kind) := (hb1.cell (p := ⟨wr.heap.size, 0, none⟩) (by simp)).trans (cell_of_row _ _ 0 _ _ _ (heap_alloc_new wr _))
      have y1 : w1.cell? ⟨wr.heap.size, 1, none⟩ = some (.int .i64 t.num) := (hb1.cell (p := ⟨wr.heap.size, 1, none⟩) (by simp)).trans (cell_of_row _ _ 1 _ _ _ (heap_alloc_new wr _))
      have y2 : w1.cell? ⟨wr.heap.size, 2, none⟩ = some (.string (S t.str)) := (hb1.cell (p := ⟨wr.heap.size, 2, none⟩) (by simp)).trans (cell_of_row _ _ 2 _ _ _ (heap_alloc_new wr _))
      have y3 : w1.cell? ⟨wr.heap.size, 3, none⟩ = some (.int .i64 a) := (hb1.cell (p := ⟨wr.heap.size, 3, none⟩) (by simp)).trans (cell_of_row _ _ 3 _ _ _ (heap_alloc_new wr _))
      have y4 : w1.cell? ⟨wr.heap.size, 4, none⟩ = some (.int .i64 b) := (hb1.cell (p := ⟨wr.heap.size, 4, none⟩) (by simp)).trans (cell_of_row _ _ 4 _ _ _ (heap_alloc_new wr _))
      have HBLK : Hid (w1.heap[wr.heap.size]? = some (.cells #[.int .i64 t.kind, .int .i64 t.num, .string (S t.str), .int .i64 a, .int .i64 b] 25 (0, 0))) := (hb1.block _ (by simp)).trans (heap_alloc_new wr _)
      have HNE : Hid (wr.heap.size ≠ w.heap.size) := by
        obtain h | h := hI.out
        · have := h.lt; unfold Hid; omega
        · have := h.lt; unfold Hid; omega
      have hlt1 : wr.heap.size < w1.heap.size := by have := hb1.size; simp at this; omega
      clear hb1 x0 x1 x2 x3 x4 hI hB
      cases hv : valT t
      · have HBAD : Hid (fmtL (trs ts) = []) := fmtL_bad (List.mem_of_getElem? HT.out) hv
        clear hv y0 y1 y2 y3 y4
        go_wp2
        go_ret
        exact ⟨by rw [HBAD.out]; rfl, HB1.out⟩
      · have HTX : Hid (∀ W, PowTab W → Calls Tryd.prog 33 #[tkV t a b] W fun e w' => e = .returned (.string (S (textB t))) ∧ Below W.heap.size W w') := fun W hW => text_any t a b (val_num t hv) hn1 W hW
        have HVV : Hid (∀ u ∈ ts.take (k + 1), valT u.1 = true) := take_mem hV.out HT.out hv
        have hfl : (fmtB (trs (ts.take k))).length ≤ 85000 := by
          have := fmt_len (trs (ts.take k)) (fun x hx => by
            obtain ⟨u, hu, rfl⟩ := List.mem_map.1 hx
            exact ⟨hV.out u hu, (HW.out u (List.mem_of_mem_take hu)).num1⟩)
          unfold trs at this
          rw [List.length_map, List.length_take] at this
          unfold trs; omega
        have hbl : (Lib.byteCells (fmtB (trs (ts.take k)))).length ≤ 85000 := by rw [Lib.byteCells_length]; exact hfl
        have htl := (text_ok t hv hn1).2
        have hts : (S (textB t)).size ≤ 64 := htl
        have HSTEP := Lib.hid (fmt_step ts k _ HT.out)
        clear hv hfl htl hn1 hV
        by_cases hk0 : k = 0
        · subst hk0
          have hE : Hid (Lib.byteCells (fmtB (trs (ts.take 0))) = []) := rfl
          go_wp2_with fail
          refine (HTX.out _ (HP.out.below HB1.out)).mono ?_
          rintro e w2 ⟨rfl, hb2⟩
          have HI2 : Hid (IsB w.heap.size w.heap.size (Lib.byteCells (fmtB (trs (ts.take 0)))) w2) := IsB.below HI1.out hb2
          have HB2 : Hid (Below w.heap.size w w2) := HB1.out.trans (hb2.mono HB1.out.size)
          clear hb2 y0 y1 y2 y3 y4
          go_wp2_with fail
          refine (writeString_any w.heap.size w.heap.size _ (S (textB t)) w2 HI2.out (by omega) HB2.out.size).mono ?_
          rintro e w3 ⟨rfl, hI3, hb3⟩
          have HB3 : Hid (Below w.heap.size w w3) := HB2.out.trans hb3
          have HI3 : Hid (IsB w.heap.size w.heap.size (Lib.byteCells (fmtB (trs (ts.take (0 + 1))))) w3) := by
            rw [hE.out, List.nil_append, strCells_S] at hI3
            unfold Hid
            rw [HSTEP.out]
            first | rw [if_pos rfl] | rw [if_pos trivial]
            rw [List.nil_append]
            exact .inr hI3
          clear hb3 hI3
          go_wp2
          go_roundw
          case rel => exact ⟨0 + 1, by go_num, by omega, HI3, HVV, HB3⟩
          case measure => simp [intOf]; omega
        · have hk1 : 0 < k := by omega
          go_wp2_with fail
          refine (writeByte_any w.heap.size w.heap.size _ 32 w1 HI1.out (by omega) HB1.out.size).mono ?_
          rintro e w1b ⟨rfl, hI1b, hb1b, ho1b⟩
          have HB1b : Hid (Below w.heap.size w w1b) := HB1.out.trans hb1b
          have HI1b : Hid (IsB w.heap.size w.heap.size (Lib.byteCells (fmtB (trs (ts.take k))) ++ [.int .u8 32]) w1b) := .inr hI1b
          have hk : w1b.heap[wr.heap.size]? = w1.heap[wr.heap.size]? := ho1b _ _ _ _ HBLK.out HNE.out (by decide)
          have z0 : w1b.cell? ⟨wr.heap.size, 0, none⟩ = some (.int .i64 t.kind) := (World.cell?_of_block (w := w1) hk).trans y0
          have z1 : w1b.cell? ⟨wr.heap.size, 1, none⟩ = some (.int .i64 t.num) := (World.cell?_of_block (w := w1) hk).trans y1
          have z2 : w1b.cell? ⟨wr.heap.size, 2, none⟩ = some (.string (S t.str)) := (World.cell?_of_block (w := w1) hk).trans y2
          have z3 : w1b.cell? ⟨wr.heap.size, 3, none⟩ = some (.int .i64 a) := (World.cell?_of_block (w := w1) hk).trans y3
          have z4 : w1b.cell? ⟨wr.heap.size, 4, none⟩ = some (.int .i64 b) := (World.cell?_of_block (w := w1) hk).trans y4
          clear hk hI1b hb1b ho1b y0 y1 y2 y3 y4
          go_wp2_with fail
          refine (HTX.out _ (HP.out.below HB1b.out)).mono ?_
          rintro e w2 ⟨rfl, hb2⟩
          have HI2 : Hid (IsB w.heap.size w.heap.size (Lib.byteCells (fmtB (trs (ts.take k))) ++ [.int .u8 32]) w2) := IsB.below HI1b.out hb2
          have HB2 : Hid (Below w.heap.size w w2) := HB1b.out.trans (hb2.mono HB1b.out.size)
          clear hb2 z0 z1 z2 z3 z4
          go_wp2_with fail
          refine (writeString_any w.heap.size w.heap.size _ (S (textB t)) w2 HI2.out (by rw [List.length_append, List.length_singleton]; omega) HB2.out.size).mono ?_
          rintro e w3 ⟨rfl, hI3, hb3⟩
          have HB3 : Hid (Below w.heap.size w w3) := HB2.out.trans hb3
          have HI3 : Hid (IsB w.heap.size w.heap.size (Lib.byteCells (fmtB (trs (ts.take (k + 1))))) w3) := by
            have e32 : ([.int .u8 32] : List Value) = Lib.byteCells [32] := rfl
            rw [strCells_S, e32, byteCells_app, byteCells_app] at hI3
            unfold Hid
            rw [HSTEP.out, if_neg hk0]
            exact .inr hI3
          clear hb3 hI3
          go_wp2
          go_roundw
          case rel => exact ⟨k + 1, by go_num, by omega, HI3, HVV, HB3⟩
          case measure => simp [intOf]; omega
    · obtain rfl : k = ts.length := by omega
      have HST := Lib.hid (Tryd.Builder_String_any w.heap.size w.heap.size (fmtB (trs ts)) wr (by have := hI.out; rw [List.take_length] at this; exact this) hB.out.size)
      have HG : Hid (fmtL (trs ts) = fmtB (trs ts)) := fmtL_good (by have := hV.out; rw [List.take_length] at this; exact this)
      clear hI hV
      go_wp2_with fail
      refine HST.out.mono ?_
      rintro e w1 ⟨rfl, hb1⟩
      have HB1 : Hid (Below w.heap.size w w1) := hB.out.trans hb1
      clear hb1
      go_wp2
      go_ret
      exact ⟨by rw [HG.out]; rfl, HB1.out⟩

end Go.Proofs.YtbegenmhfmpgpaaDoor
