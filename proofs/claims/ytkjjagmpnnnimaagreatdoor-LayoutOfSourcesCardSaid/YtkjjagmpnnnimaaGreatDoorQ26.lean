/- The program's add at every token, newBuilder and unanswered. Conditions: strings of at most 2^47 bytes, fewer than two hundred million tokens; strconv.ErrRange holds an interface value. The program's Insert returns what the model says, at every list of tokens. Conditions: at most two hundred million tokens, strings of at most 2^47 bytes; strconv.ErrRange holds an interface value. What the reference's ValidToken returns: what the model of Valid says. Condition: strings of at most 2^47 bytes. -/
import Derived.Test.YtkjjagmpnnnimaaGreatDoorQ25
import Derived.Test.YtkjjagmpnnnimaaGreatDoorQ21
import Derived.Test.YtkjjagmpnnnimaaGreatDoorQ6
import Derived.Test.YtkjjagmpnnnimaaGreatDoorQ5
import Derived.Test.YtkjjagmpnnnimaaGreatDoorQ7
import Derived.Test.YtkjjagmpnnnimaaGreatDoorQ20
import Derived.Deep.RegionWith
namespace Go.Proofs.YtkjjagmpnnnimaaGreatDoor
open Go.RowKit M

theorem add_any (w : World) (Pr : Nat → Prop) (g k : Nat) (s : LSt) (t : TR) (a b : Int) (h : BSt w Pr g s) (hi : LInv k s) (hk : k ≤ 200000000) (hr : RangeVar w) (hs : t.str.length ≤ 140737488355328) :
    Calls Tryz.prog 46 #[.pointer (some ⟨g, 0, none⟩), tkV t a b] w (AddPost w Pr g (addL s (t, (a, b)))) := by
  obtain ⟨out, cols, ⟨la, lb⟩, it, li⟩ := s
  obtain ⟨b1, b2, b3, b4⟩ := hi
  simp only at b1 b2 b3 b4
  unfold addL
  simp only
  by_cases h1 : (valT t && isAft (a, b) (la, lb)) = false
  · rw [if_pos h1]
    cases hv : valT t
    · exact add_bad w Pr g _ t a b h hr hs hv
    · rw [hv, Bool.true_and] at h1
      exact add_bad2 w Pr g _ t a b h hr hs hv h1
  obtain ⟨hv, ha⟩ := val_aft (t := (t, (a, b))) h1
  obtain ⟨p1, p2⟩ := isAft_pos ha
  simp only at hv ha p1 p2
  rw [if_neg h1]
  by_cases h2 : (la, lb) = (0, 0)
  · rw [if_pos h2]
    injection h2 with e1 e2
    subst e1 e2
    by_cases h3 : b ≠ 1
    · rw [if_pos h3]; exact add_first_bad w Pr g out cols it li t a b h hr hs hv ha h3
    · rw [if_neg h3]
      have h3 : b = 1 := Classical.byContradiction h3
      subst h3
      exact add_first w Pr g out cols it li t a h hr hs hv ha (by omega)
  rw [if_neg h2]
  have hla : 1 ≤ la := by
    rcases b4 with q | q
    · exact absurd q h2
    · exact q
  obtain ⟨x, r, rfl⟩ : ∃ x r, cols = x :: r := by
    cases cols with
    | nil => simp at b1
    | cons x r => exact ⟨x, r, rfl⟩
  rw [List.length_cons] at b2 b3
  have hbl := begL_len out (x :: r) (t, (a, b))
  rw [List.length_cons] at hbl
  by_cases h3 : it ≠ (0, 0)
  · rw [if_pos h3]
    have hans : ansL ⟨out, x :: r, (la, lb), it, li⟩ (decide (la < a)) = (true, ⟨out, x :: r, (la, lb), (0, 0), li⟩) := by unfold ansL; rw [if_pos h3]
    generalize hB : begL out (x :: r) (t, (a, b)) = B at *
    obtain ⟨e2, o2, cs2⟩ := B
    simp only at hbl ⊢
    by_cases h4 : e2 ≠ 0
    · rw [if_pos h4]
      exact add_begin_bad w Pr g out (x :: r) la lb it li t a b h hr hs hv ha x r rfl (0, 0) li e2 o2 cs2 _ hla hans hB h4 (by omega) (by omega)
    · rw [if_neg h4]
      have h4 : e2 = 0 := Classical.byContradiction h4
      subst h4
      exact add_begin w Pr g out (x :: r) la lb it li t a b h hr hs hv ha x r rfl (0, 0) li o2 cs2 hla hans hB (by omega) (by omega) (by omega)
  rw [if_neg h3]
  by_cases h5 : la < a ∧ li ≠ (0, 0)
  · rw [if_pos h5]
    have hans : ansL ⟨out, x :: r, (la, lb), it, li⟩ (decide (la < a)) = (true, ⟨out, x :: r, (la, lb), it, (0, 0)⟩) := by
      unfold ansL; rw [if_neg h3, if_pos ⟨decide_eq_true h5.1, h5.2⟩]
    have h30 : it = (0, 0) := Classical.byContradiction h3
    subst h30
    generalize hB : begL out (x :: r) (t, (a, b)) = B at *
    obtain ⟨e2, o2, cs2⟩ := B
    simp only at hbl ⊢
    by_cases h4 : e2 ≠ 0
    · rw [if_pos h4]
      exact add_begin_bad w Pr g out (x :: r) la lb (0, 0) li t a b h hr hs hv ha x r rfl (0, 0) (0, 0) e2 o2 cs2 _ hla hans hB h4 (by omega) (by omega)
    · rw [if_neg h4]
      have h4 : e2 = 0 := Classical.byContradiction h4
      subst h4
      exact add_begin w Pr g out (x :: r) la lb (0, 0) li t a b h hr hs hv ha x r rfl (0, 0) (0, 0) o2 cs2 hla hans hB (by omega) (by omega) (by omega)
  rw [if_neg h5]
  have hans : ansL ⟨out, x :: r, (la, lb), it, li⟩ (decide (la < a)) = (false, ⟨out, x :: r, (la, lb), it, li⟩) := by
    unfold ansL
    rw [if_neg h3, if_neg (fun q => h5 ⟨of_decide_eq_true q.1, q.2⟩)]
  have hpo := procL_ok (out := out) (cols := x :: r) (t := (t, (a, b))) (decide (la < a)) b1 (by simp; omega) p2
  rw [List.length_cons] at hpo
  generalize hB : procL out (x :: r) (t, (a, b)) (decide (la < a)) = B at *
  obtain ⟨o2, cs2⟩ := B
  simp only at hpo ⊢
  exact add_proceed w Pr g out (x :: r) la lb it li t a b h hr hs hv ha o2 cs2 hla p2 b1 hans hB (by simp; omega) (by omega)

set_option maxRecDepth 100000 in
set_option maxHeartbeats 3200000 in
theorem new_any (w : World) :
    Calls Tryz.prog 45 #[] w fun e w' => e = .returned (.pointer (some ⟨w.heap.size, 0, none⟩)) ∧ BSt w' (· < w.heap.size) w.heap.size startL ∧ Below w.heap.size w w' := by
  have hB0 : BSt (w.alloc (.cells #[.slice none 0 0, .slice none 0 0, .int .i64 0, .int .i64 0, .int .i64 0, .int .i64 0, .int .i64 0, .int .i64 0] 71)) (· < w.heap.size) w.heap.size ⟨[], [], (0, 0), (0, 0), (0, 0)⟩ :=
    ⟨.slice none 0 0, .slice none 0 0, Blk.new _ _ _, World.ownsRow_nil _ _ _ _, World.ownsRow_nil _ _ _ _, Nat.lt_irrefl _, fun k hk => by simp [Value.ownBlock] at hk, fun k hk => by simp [Value.ownBlock] at hk, fun k hk => by simp; omega⟩
  have HB0 := Lib.hid hB0
  clear hB0
  go_enter Tryz.func45, Tryz.ntmps45
  go_wp2_with fail
  refine (open_any _ _ _ _ 1 1 HB0.out (by simp) (by simp)).mono ?_
  rintro e w1 ⟨rfl, hB1, hK1⟩
  have HB1 := Lib.hid hB1
  have HK1 := Lib.hid hK1
  clear hB1 hK1
  go_wp2
  go_ret
  exact ⟨rfl, HB1.out, (((Keep.refl (· < w.heap.size) w).alloc (fun _ h => h) _).trans HK1.out).to_below⟩

/-- the keyword that still waits -/
def waitL (s : LSt) : Int × Int := if s.line ≠ (0, 0) then s.line else s.item
set_option maxRecDepth 100000 in
set_option maxHeartbeats 3200000 in
theorem unanswered_any (w : World) (Pr : Nat → Prop) (g : Nat) (s : LSt) (h : BSt w Pr g s) :
    Calls Tryz.prog 47 #[.pointer (some ⟨g, 0, none⟩)] w fun e w' => e = .returned (posV (waitL s).1 (waitL s).2) ∧ Below w.heap.size w w' := by
  have hW : Hid (waitL s = if s.line ≠ (0, 0) then s.line else s.item) := rfl
  generalize waitL s = W at *
  obtain ⟨out, cols, la, ⟨i1, i2⟩, ⟨l1, l2⟩⟩ := s
  obtain ⟨vt, vc, hB⟩ := h
  have k4 : w.cell? ⟨g, 4, none⟩ = some (.int .i64 i1) := hB.blk.cell 4
  have k5 : w.cell? ⟨g, 5, none⟩ = some (.int .i64 i2) := hB.blk.cell 5
  have k6 : w.cell? ⟨g, 6, none⟩ = some (.int .i64 l1) := hB.blk.cell 6
  have k7 : w.cell? ⟨g, 7, none⟩ = some (.int .i64 l2) := hB.blk.cell 7
  have hg := hB.blk.lt
  simp only at hW
  clear hB
  rcases pair_zero (l1, l2) with h1 | ⟨h1, h2⟩
  · have hW2 : Hid (W = (i1, i2)) := hW.out.trans (if_neg (fun q => q h1))
    injection h1 with e1 e2
    subst e1 e2
    clear hW
    go_enter Tryz.func47, Tryz.ntmps47
    go_wp2
    refine bodyPost_ret (v := posV i1 i2) ?_ rfl ?_
    · simp [results, Tryz.results47, go_sem]
    · rw [hW2.out]
      exact ⟨rfl, (Below.refl _ _).alloc (Nat.le_refl _) _⟩
  · have hW2 : Hid (W = (l1, l2)) := hW.out.trans (if_pos h1)
    simp only at h2
    clear hW h1
    rcases h2 with h2 | ⟨h2, h3⟩
    all_goals
      go_enter Tryz.func47, Tryz.ntmps47
      go_wp2
      refine bodyPost_ret (v := posV l1 l2) ?_ rfl ?_
      · simp [results, Tryz.results47, go_sem]
      · rw [hW2.out]
        exact ⟨rfl, (Below.refl _ _).alloc (Nat.le_refl _) _⟩

end Go.Proofs.YtkjjagmpnnnimaaGreatDoor

namespace Go.Proofs.YtkjjagmpnnnimaaGreatDoor
open Go.RowKit M

/-- what holds at each round's head of Insert's loop -/
def IRel (w : World) (ts : List Tok) (i : Value) (wr : World) : Prop :=
  ∃ (k : Nat) (s : LSt), k ≤ ts.length ∧ i = .int .i64 k ∧ LInv k s ∧ BSt wr (· < w.heap.size + 1) (w.heap.size + 1) s ∧
    Keep (· < w.heap.size + 1) (w.alloc (.cells #[.int .i64 0, .int .i64 0] 25)) wr ∧ insL ts = insF s (ts.drop k)
/-- closing the j outermost blocks that are left -/
def EndS (s : LSt) (j : Nat) : LSt := { s with out := s.out ++ List.replicate j (mkT 7 (0, 0)), cols := s.cols.drop j }
theorem owns_from {w : World} {b B : Nat} {e : TypeId} {z : Nat} {v : Value} {n : Nat} {xs : List Value} (h : w.ownsRow b e z v n xs) (hp : ∀ k, v.ownBlock = some k → ¬ k < B) : w.ownsRow B e z v n xs := by
  obtain ⟨h1, h2⟩ := h
  refine ⟨h1, ?_⟩
  rcases h2 with h2 | ⟨g, cap, cur, rfl, a, c, d⟩
  · exact .inl h2
  · exact .inr ⟨g, cap, cur, rfl, by have := hp g (by simp [Value.ownBlock]); omega, c, d⟩

theorem endS_step (s : LSt) (j : Nat) (x : Int) (r : List Int) (h : s.cols.drop j = x :: r) : ({ EndS s j with out := (EndS s j).out ++ [mkT 7 (0, 0)], cols := r } : LSt) = EndS s (j + 1) := by
  have h2 : s.cols.drop (j + 1) = r := by rw [← List.drop_drop, h]; rfl
  unfold EndS
  simp only
  rw [h2, List.replicate_succ', List.append_assoc]
theorem endL_wait {s : LSt} (h : waitL s ≠ (0, 0)) : endL s = ([], waitL s, 3) := by
  unfold endL waitL at *
  by_cases h1 : s.line ≠ (0, 0)
  · rw [if_pos h1, if_pos h1]
  · rw [if_neg h1] at h ⊢
    rw [if_neg h1, if_pos h]
theorem endL_done {s : LSt} (h : waitL s = (0, 0)) : endL s = (s.out ++ List.replicate s.cols.length (mkT 7 (0, 0)), (0, 0), 0) := by
  unfold endL waitL at *
  by_cases h1 : s.line ≠ (0, 0)
  · rw [if_pos h1] at h; exact absurd h h1
  · rw [if_neg h1] at h ⊢
    rw [if_neg (fun q => q h)]

set_option maxRecDepth 100000 in
set_option maxHeartbeats 6400000 in
theorem insert_all (w : World) (A : Option Addr) (n c : Nat) (ts : List Tok) (hn : n = ts.length) (hA : InToks w A ts) (hr : RangeVar w) (hm : ts.length ≤ 200000000) (hs : ∀ t ∈ ts, t.1.str.length ≤ 140737488355328) :
    Calls Tryz.prog 23 #[.slice A n c] w (ScanPost (insL ts) w) := by
  have HA := Lib.hid hA
  have HR := Lib.hid hr
  have HS := Lib.hid hs
  have HRR : Hid (∃ R, insL ts = R) := ⟨_, rfl⟩
  have h0 : IRel w ts (.int .i64 (0 : Nat)) (w.alloc (.cells #[.int .i64 0, .int .i64 0] 25)) → True := fun _ => trivial
  clear hA hr hs h0
  obtain ⟨R, hR⟩ := HRR.out
  have hIR : Hid (insL ts = R) := hR
  subst hn
  clear HRR hR
  rw [hIR.out]
  go_enter Tryz.func23, Tryz.ntmps23
  go_wp2_with fail
  refine (new_any _).mono ?_
  rintro e w1 ⟨rfl, hB1, hb1⟩
  simp at hB1 hb1
  have HB1 := Lib.hid hB1
  have HK1 : Hid (Keep (· < w.heap.size + 1) (w.alloc (.cells #[.int .i64 0, .int .i64 0] 25)) w1) := ⟨hb1.os, hb1.tape, hb1.output, hb1.size, hb1.block⟩
  clear hB1 hb1
  go_wp2_with fail
  go_loopw [13] (fun i wr => IRel w ts i wr) (fun i _ => ts.length - (intOf i).toNat)
  case atStart => exact ⟨0, startL, by omega, rfl, start_inv, HB1.out, HK1.out, rfl⟩
  case round =>
    obtain ⟨k, s, hk, rfl, hI, hB, hK, hF⟩ := hrel
    have HI := Lib.hid hI
    have HB := Lib.hid hB
    have HK := Lib.hid hK
    have HF := Lib.hid hF
    have hbelow : Below w.heap.size w wr := by
      have h1 : Keep (· < w.heap.size) w (w.alloc (.cells #[.int .i64 0, .int .i64 0] 25)) := (Keep.refl _ w).alloc (fun _ q => q) _
      exact (h1.trans (hK.mono fun k hk => by omega)).to_below
    have HBL := Lib.hid hbelow
    have hp0 : wr.cell? ⟨w.heap.size, 0, none⟩ = some (.int .i64 0) := (hK.cell (by omega) 0).trans (cell_of_row _ _ 0 _ _ _ (heap_alloc_new w _))
    have hp1 : wr.cell? ⟨w.heap.size, 1, none⟩ = some (.int .i64 0) := (hK.cell (by omega) 1).trans (cell_of_row _ _ 1 _ _ _ (heap_alloc_new w _))
    have hpf : ∀ i, wr.frozen? ⟨w.heap.size, i, none⟩ = false := fun i => (hK.frozen (by omega) i).trans ((Blk.new w 25 #[.int .i64 0, .int .i64 0]).frozen i)
    have hwl : w.heap.size < wr.heap.size := hB.lt _ (by omega)
    clear hI hB hK hF hbelow
    by_cases hlt : k < ts.length
    · obtain ⟨⟨t, a, b⟩, ht⟩ : ∃ t, ts[k]? = some t := ⟨ts[k], List.getElem?_eq_getElem hlt⟩
      have htm : t.str.length ≤ 140737488355328 := HS.out _ (List.mem_of_getElem? ht)
      have hdrop : ts.drop k = (t, (a, b)) :: ts.drop (k + 1) := by
        rw [List.drop_eq_getElem_cons hlt]
        have : ts[k] = (t, (a, b)) := by
          have := List.getElem?_eq_getElem hlt
          rw [ht] at this; injection this with this; exact this.symm
        rw [this]
      rcases (HA.out.below HBL.out) with hnil | ⟨bb, off, rfl, hbb, hcell⟩
      · rw [hnil] at hlt; simp at hlt
      have x0 := hcell k _ ht 0 _ rfl
      have x1 := hcell k _ ht 1 _ rfl
      have x2 := hcell k _ ht 2 _ rfl
      have x3 := hcell k _ ht 3 _ rfl
      have x4 := hcell k _ ht 4 _ rfl
      simp only [Nat.add_zero] at x0
      have HADD := Lib.hid (add_any _ _ (w.heap.size + 1) k s t a b (HB.out.more (.cells #[.int .i64 t.kind, .int .i64 t.num, .string (S t.str), .int .i64 a, .int .i64 b] 37)) HI.out (by omega) ((HR.out.below HBL.out).alloc _) htm)
      have HF2 : Hid (insL ts = if (addL s (t, (a, b))).1 ≠ 0 then ([], (a, b), (addL s (t, (a, b))).1) else insF (addL s (t, (a, b))).2 (ts.drop (k + 1))) := by
        unfold Hid; rw [HF.out, hdrop, insF_cons]
      have HI2 := Lib.hid (fun q => add_inv (t, (a, b)) HI.out q)
      generalize addL s (t, (a, b)) = Q at *
      obtain ⟨e, s'⟩ := Q
      simp only at HF2 HI2 HADD
      clear hcell ht hdrop htm HF
      go_wp2_with fail
      refine HADD.out.mono ?_
      rintro e0 w2 ⟨rfl, hB2, hK2⟩
      simp only at hB2
      have y0 : w2.cell? ⟨wr.heap.size, 3, none⟩ = some (.int .i64 a) := box_cell hK2 3
      have y1 : w2.cell? ⟨wr.heap.size, 4, none⟩ = some (.int .i64 b) := box_cell hK2 4
      have HB2 := Lib.hid hB2
      have HK2 : Hid (Keep (· < w.heap.size + 1) wr w2) := keep_box HB.out.lt hK2
      clear hB2 hK2 HADD
      by_cases he : e = 0
      · have HE := Lib.hid he
        have g1 : (e != 0) = false := by simp [he]
        have HF3 : Hid (insL ts = insF s' (ts.drop (k + 1))) := by unfold Hid; rw [HF2.out, if_neg (fun q => q he)]
        clear he HF2
        go_wp2
        go_roundw
        case rel => exact ⟨k + 1, s', by omega, by go_num, HI2.out HE.out, (HB2.out HE.out).mono (fun _ q => .inl q), HK.out.trans HK2.out, HF3.out⟩
        case measure => simp [intOf]; omega
      · have HE := Lib.hid he
        have g1 : (e != 0) = true := by simp [he]
        have HF3 : Hid (R = ([], (a, b), e)) := by unfold Hid; rw [← hIR.out, HF2.out, if_pos he]
        have z0 : w2.cell? ⟨w.heap.size, 0, none⟩ = some (.int .i64 0) := (HK2.out.cell (by omega) 0).trans hp0
        have z1 : w2.cell? ⟨w.heap.size, 1, none⟩ = some (.int .i64 0) := (HK2.out.cell (by omega) 1).trans hp1
        have zf : ∀ i, w2.frozen? ⟨w.heap.size, i, none⟩ = false := fun i => (HK2.out.frozen (by omega) i).trans (hpf i)
        have HB3 : Hid (Below w.heap.size w w2) := HBL.out.trans (Below.mono (B := w.heap.size) (HK2.out.mono (fun _ q => by omega)).to_below (Nat.le_refl _))
        clear he HF2 x0 x1 x2 x3 x4 hp0 hp1 hpf
        go_wp2_with fail
        go_region
        all_goals
          go_wp2
          refine bodyPost_ret (v := .tuple #[.slice none 0 0, posV a b, .int .i64 e]) ?_ rfl ?_
          · simp [results, Tryz.results23, go_sem, z0, z1]
          · rw [HF3.out]
            exact ⟨_, rfl, World.ownsRow_nil _ _ _ _, ((below_drew HB3.out).setCell (by simp) _).setCell (by simp) _⟩
    · have hkn : k = ts.length := by omega
      subst hkn
      have HF2 : Hid (R = endL s) := by unfold Hid; rw [← hIR.out, HF.out, List.drop_length]; rfl
      clear HF
      go_wp2_with fail
      refine (unanswered_any _ _ _ _ HB.out).mono ?_
      rintro e w2 ⟨rfl, hb2⟩
      have HB2 := Lib.hid (HB.out.below hb2)
      have HK2 : Hid (Keep (· < w.heap.size + 1) (w.alloc (.cells #[.int .i64 0, .int .i64 0] 25)) w2) := HK.out.trans (Keep.below hb2 (fun k hk => by omega))
      have hz2 := hb2.size
      have hwl2 : w.heap.size < w2.heap.size := by omega
      have z0 : w2.cell? ⟨w.heap.size, 0, none⟩ = some (.int .i64 0) := (HK2.out.cell (by omega) 0).trans (cell_of_row _ _ 0 _ _ _ (heap_alloc_new w _))
      have z1 : w2.cell? ⟨w.heap.size, 1, none⟩ = some (.int .i64 0) := (HK2.out.cell (by omega) 1).trans (cell_of_row _ _ 1 _ _ _ (heap_alloc_new w _))
      have zf : ∀ i, w2.frozen? ⟨w.heap.size, i, none⟩ = false := fun i => (HK2.out.frozen (by omega) i).trans ((Blk.new w 25 #[.int .i64 0, .int .i64 0]).frozen i)
      have HB3 : Hid (Below w.heap.size w w2) := HBL.out.trans (hb2.mono (by omega))
      have hwait : (waitL s ≠ (0, 0) → R = ([], waitL s, 3)) ∧ (waitL s = (0, 0) → R = (s.out ++ List.replicate s.cols.length (mkT 7 (0, 0)), (0, 0), 0)) :=
        ⟨fun q => HF2.out.trans (endL_wait q), fun q => HF2.out.trans (endL_done q)⟩
      have HWT := Lib.hid hwait
      clear hb2 hwait HF2 hp0 hp1 hpf
      generalize waitL s = W at *
      obtain ⟨p1, p2⟩ := W
      rcases pair_zero (p1, p2) with h1 | ⟨h1, h2⟩
      · have hR2 := Lib.hid (HWT.out.2 h1)
        injection h1 with e1 e2
        subst e1 e2
        clear HWT
        go_wp2_with fail
        go_loopw [] (fun wr => ∃ j, BSt wr (· < w.heap.size + 1) (w.heap.size + 1) (EndS s j) ∧ j ≤ s.cols.length ∧ Keep (· < w.heap.size + 1) (w.alloc (.cells #[.int .i64 0, .int .i64 0] 25)) wr) (fun wr => colN wr (w.heap.size + 1))
        case atStart => exact ⟨0, by have := HB2.out.alloc (.cells #[.int .i64 0, .int .i64 0] 25 (0, 0)); simpa [EndS] using this, by omega, HK2.out.alloc (fun k hk => by simp; omega) _⟩
        case round =>
          obtain ⟨j, hB4, hj, hK4⟩ := hrel
          have HB4 := Lib.hid hB4
          have HK4 := Lib.hid hK4
          have HCN := Lib.hid (colN_is hB4)
          obtain ⟨vt, vc, hBA⟩ := HB4.out
          clear hB4 hK4
          by_cases hjc : j < s.cols.length
          · obtain ⟨x, r, hxr⟩ : ∃ x r, s.cols.drop j = x :: r := by
              cases hd : s.cols.drop j with
              | nil => have := congrArg List.length hd; simp at this; omega
              | cons x r => exact ⟨x, r, rfl⟩
            have hrl : r.length + 1 = s.cols.length - j := by have := congrArg List.length hxr; simpa using this.symm
            have HXR := Lib.hid hxr
            obtain ⟨gc, cap, rfl, _, _, _⟩ := hBA.cform (show (EndS s j).cols = x :: r from hxr)
            have k0 : wr.cell? ⟨w.heap.size + 1, 1, none⟩ = some (.slice (some ⟨gc, 0, none⟩) (r.length + 1 : Nat) cap) := hBA.blk.cell 1
            have HCL := Lib.hid (close_any wr _ (w.heap.size + 1) (EndS s j) 0 0 x r HB4.out hxr (by unfold EndS; simp; have := HI.out.out; omega) (by have := HI.out.size; omega))
            rw [endS_step s j x r hxr] at HCL
            clear hBA hxr
            go_wp2_with fail
            refine HCL.out.mono ?_
            rintro e w5 ⟨rfl, hB5, hK5⟩
            have HB5 := Lib.hid hB5
            have HK5 := Lib.hid (HK4.out.trans hK5)
            have HN5 := Lib.hid (colN_is hB5)
            clear hB5 hK5 HCL
            go_wp2
            go_roundw
            case rel => exact ⟨j + 1, HB5.out, by omega, HK5.out⟩
            case measure => rw [HN5.out, HCN.out]; unfold EndS; simp; omega
          · have hje : j = s.cols.length := by omega
            subst hje
            have hcols : (EndS s s.cols.length).cols = [] := by unfold EndS; simp
            obtain ⟨A5, c5, hv5⟩ := owns_form hBA.rc
            rw [hcols, List.length_nil] at hv5
            subst hv5
            obtain ⟨A6, c6, hv6⟩ := owns_form hBA.rt
            subst hv6
            have k0 : wr.cell? ⟨w.heap.size + 1, 1, none⟩ = some (.slice A5 0 c5) := hBA.blk.cell 1
            have k1 : wr.cell? ⟨w.heap.size + 1, 0, none⟩ = some (.slice A6 (EndS s s.cols.length).out.length c6) := hBA.blk.cell 0
            have y0 : wr.cell? ⟨w.heap.size, 0, none⟩ = some (.int .i64 0) := (HK4.out.cell (by omega) 0).trans (cell_of_row _ _ 0 _ _ _ (heap_alloc_new w _))
            have y1 : wr.cell? ⟨w.heap.size, 1, none⟩ = some (.int .i64 0) := (HK4.out.cell (by omega) 1).trans (cell_of_row _ _ 1 _ _ _ (heap_alloc_new w _))
            have yf : ∀ i, wr.frozen? ⟨w.heap.size, i, none⟩ = false := fun i => (HK4.out.frozen (by omega) i).trans ((Blk.new w 25 #[.int .i64 0, .int .i64 0]).frozen i)
            have HRT := Lib.hid (owns_from hBA.rt (B := w.heap.size) (fun k hk q => hBA.nt k hk (by omega)))
            have hne : (Value.slice A6 (EndS s s.cols.length).out.length c6).ownBlock ≠ some w.heap.size := fun q => hBA.nt _ q (by omega)
            have HNE := Lib.hid hne
            have HB5 : Hid (Below w.heap.size w wr) := ((((Keep.refl (· < w.heap.size) w).alloc (fun _ q => q) _).trans (HK4.out.mono fun k hk => by omega))).to_below
            clear hBA hne hcols
            go_wp2_with fail
            refine bodyPost_ret (v := .tuple #[.slice A6 (EndS s s.cols.length).out.length c6, posV 0 0, .int .i64 0]) ?_ rfl ?_
            · simp [results, Tryz.results23, go_sem, y0, y1]
            · rw [hR2.out]
              refine ⟨.slice A6 (EndS s s.cols.length).out.length c6, rfl, ?_, (HB5.out.setCell (by simp) _).setCell (by simp) _⟩
              exact owns_set (owns_set HRT.out HNE.out _) HNE.out _
      · have hR2 := Lib.hid (HWT.out.1 h1)
        clear HWT h1
        simp only at h2
        rcases h2 with h2 | ⟨h2, h3⟩
        all_goals
          go_wp2_with fail
          go_region
          all_goals
            go_wp2
            refine bodyPost_ret (v := .tuple #[.slice none 0 0, posV p1 p2, .int .i64 3]) ?_ rfl ?_
            · simp [results, Tryz.results23, go_sem, z0, z1, hwl2]
            · rw [hR2.out]
              exact ⟨_, rfl, World.ownsRow_nil _ _ _ _, below_drew (((HB3.out.setCell (p := ⟨w.heap.size, 0, none⟩) (Nat.le_refl _) _).setCell (p := ⟨w.heap.size, 1, none⟩) (Nat.le_refl _) _).alloc (by simp; omega) _)⟩

end Go.Proofs.YtkjjagmpnnnimaaGreatDoor

namespace Go.Proofs.YtkjjagmpnnnimaaGreatDoor.M

theorem symB_mem (l : Bs) (h : symB l ≠ []) : symB l ∈ symbolsL := by
  rw [symB_spec] at h ⊢
  split
  · decide
  · rename_i h0
    rw [if_neg h0] at h
    exact firstP_mem l symbolsL h
theorem item_sym : ∀ q ∈ symbolsL, (decide (wordN q = 0) && decide (symB q = q)) = true := by decide +kernel
theorem item_kw : ∀ q ∈ keywords, (decide (wordN q = q.length) && decide ((q.head?.map digitB) = some false)) = true := by decide +kernel
theorem let_dig {c : UInt8} (h : letterB c = true) : digitB c = false := by
  simp only [letterB, digitB, Bool.or_eq_true, Bool.and_eq_true, decide_eq_true_eq, Bool.and_eq_false_iff, decide_eq_false_iff_not] at *
  omega
theorem cont_of {c : UInt8} (h : (letterB c || digitB c) = true) : contB c = true := by
  unfold contB; rw [h]; rfl
theorem wordN_all {l : Bs} (hne : l ≠ []) : wordN l = l.length ↔ (wlen l = l.length ∧ (l.head?.map fun c => letterB c || digitB c) = some true) := by
  cases l with
  | nil => exact absurd rfl hne
  | cons c r =>
    unfold wordN
    simp only [List.head?_cons, Option.map_some, Option.some.injEq, List.length_cons, wlen_cons]
    cases h : (letterB c || digitB c)
    · simp
    · rw [if_pos rfl, if_pos (cont_of h)]; simp
theorem intR_kind (l : Bs) : (intR l).kind = 0 ∨ (intR l).kind = 2 := by
  unfold intR
  split
  · exact .inl rfl
  · split
    · exact .inl rfl
    · split
      · exact .inr rfl
      · exact .inl rfl

def rvalT (t : TR) : Bool :=
  if t.kind = 1 then decide (t.num = 0) && nameB t.str
  else if t.kind = 2 then decide (0 ≤ t.num) && decide (t.str = [])
  else if t.kind = 3 then decide (t.num = 0) && kwB t.str
  else if t.kind = 4 then decide (t.num = 0) && symbolsL.contains t.str
  else false

theorem rval_eq (t : TR) : rvalT t = valT t := by
  obtain ⟨k, num, str, er⟩ := t
  by_cases h2 : k = 2
  · subst h2; rfl
  by_cases h : k = 1 ∨ k = 3 ∨ k = 4
  · have hv : valT ⟨k, num, str, er⟩ = (decide ((itemR str).err = 0) && (decide ((itemR str).kind = k) && (decide ((itemR str).num = num) && decide ((itemR str).str = str)))) := by
      unfold valT; rw [if_neg h2, if_pos h]
    rw [hv, Bool.eq_iff_iff]
    simp only [Bool.and_eq_true, decide_eq_true_eq]
    rcases h with rfl | rfl | rfl
    · show ((decide (num = 0) && nameB str) = true) ↔ _
      unfold nameB
      simp only [Bool.and_eq_true, decide_eq_true_eq, beq_iff_eq, Bool.not_eq_true']
      constructor
      · rintro ⟨rfl, hp, h64, hl, hw, hk⟩
        cases str with
        | nil => simp at hp
        | cons c r =>
          simp at hl
          have hN : wordN (c :: r) = (c :: r).length := (wordN_all (by simp)).2 ⟨hw, by simp [hl]⟩
          have : itemR (c :: r) = ⟨1, 0, c :: r, 0⟩ := by
            unfold itemR
            rw [if_pos (by rw [hN]; simp), hN, List.take_length]
            unfold wordR
            rw [if_neg (by simp [let_dig hl]), hk, if_neg (by decide), if_pos h64]
          rw [this]
          exact ⟨rfl, rfl, rfl, rfl⟩
      · rintro ⟨he, hk, hn, hs⟩
        unfold itemR at he hk hn hs
        by_cases hw : wordN str ≠ 0
        · rw [if_pos hw] at he hk hn hs
          unfold wordR at he hk hn hs
          by_cases hd : ((str.take (wordN str)).head?.map digitB) = some true
          · rw [if_pos hd] at hk
            rcases intR_kind (str.take (wordN str)) with q | q <;> rw [q] at hk <;> exact absurd hk (by first | decide | simp)
          · rw [if_neg hd] at he hk hn hs
            by_cases hkw : kwB (str.take (wordN str)) = true
            · rw [if_pos hkw] at hk; exact absurd hk (by first | decide | simp)
            · rw [if_neg hkw] at he hk hn hs
              by_cases h64 : (str.take (wordN str)).length ≤ 64
              · rw [if_pos h64] at hn hs
                simp only at hn hs
                have hle := wordN_le str
                have hN : wordN str = str.length := by have := congrArg List.length hs; rw [List.length_take] at this; omega
                rw [hs] at hd hkw h64
                have hne : str ≠ [] := by intro e; rw [e] at hw; exact hw rfl
                obtain ⟨h1, h2⟩ := (wordN_all hne).1 hN
                cases str with
                | nil => exact absurd rfl hne
                | cons c r =>
                  simp at hd h2
                  refine ⟨hn.symm, by simp, h64, ?_, h1, by simpa using hkw⟩
                  simp
                  rcases h2 with h2 | h2
                  · exact h2
                  · rw [hd] at h2; exact absurd h2 (by decide)
              · rw [if_neg h64] at hk; exact absurd hk (by first | decide | simp)
        · rw [if_neg hw] at hk
          split at hk <;> exact absurd hk (by first | decide | simp)
    · show ((decide (num = 0) && kwB str) = true) ↔ _
      simp only [Bool.and_eq_true, decide_eq_true_eq]
      constructor
      · rintro ⟨rfl, hk⟩
        have hm : str ∈ keywords := by simpa [kwB] using hk
        have hi := item_kw str hm
        simp only [Bool.and_eq_true, decide_eq_true_eq] at hi
        have hne : str.length ≠ 0 := by intro e; have : str = [] := List.eq_nil_of_length_eq_zero e; rw [this] at hi; simp at hi
        have : itemR str = ⟨3, 0, str, 0⟩ := by
          unfold itemR
          rw [if_pos (by rw [hi.1]; exact hne), hi.1, List.take_length]
          unfold wordR
          rw [hi.2, if_neg (by decide), if_pos hk]
        rw [this]
        exact ⟨rfl, rfl, rfl, rfl⟩
      · rintro ⟨he, hk, hn, hs⟩
        unfold itemR at he hk hn hs
        by_cases hw : wordN str ≠ 0
        · rw [if_pos hw] at he hk hn hs
          unfold wordR at he hk hn hs
          by_cases hd : ((str.take (wordN str)).head?.map digitB) = some true
          · rw [if_pos hd] at hk
            rcases intR_kind (str.take (wordN str)) with q | q <;> rw [q] at hk <;> exact absurd hk (by first | decide | simp)
          · rw [if_neg hd] at he hk hn hs
            by_cases hkw : kwB (str.take (wordN str)) = true
            · rw [if_pos hkw] at hn hs
              simp only at hn hs
              rw [hs] at hkw
              exact ⟨hn.symm, hkw⟩
            · rw [if_neg hkw] at hk
              split at hk <;> exact absurd hk (by first | decide | simp)
        · rw [if_neg hw] at hk
          split at hk <;> exact absurd hk (by first | decide | simp)
    · show ((decide (num = 0) && symbolsL.contains str) = true) ↔ _
      simp only [Bool.and_eq_true, decide_eq_true_eq]
      constructor
      · rintro ⟨rfl, hk⟩
        have hm : str ∈ symbolsL := by simpa using hk
        have hi := item_sym str hm
        simp only [Bool.and_eq_true, decide_eq_true_eq] at hi
        have hne := symbolsL_ne str hm
        have : itemR str = ⟨4, 0, str, 0⟩ := by
          unfold itemR
          rw [if_neg (by rw [hi.1]; simp), hi.2, if_pos hne]
        rw [this]
        exact ⟨rfl, rfl, rfl, rfl⟩
      · rintro ⟨he, hk, hn, hs⟩
        unfold itemR at he hk hn hs
        by_cases hw : wordN str ≠ 0
        · rw [if_pos hw] at hk
          unfold wordR at hk
          split at hk
          · rcases intR_kind (str.take (wordN str)) with q | q <;> rw [q] at hk <;> exact absurd hk (by first | decide | simp)
          · split at hk
            · exact absurd hk (by first | decide | simp)
            · split at hk <;> exact absurd hk (by first | decide | simp)
        · rw [if_neg hw] at he hk hn hs
          by_cases hy : symB str ≠ []
          · rw [if_pos hy] at hn hs
            simp only at hn hs
            refine ⟨hn.symm, ?_⟩
            have := symB_mem str hy
            rw [hs] at this
            simpa using this
          · rw [if_neg hy] at hk; exact absurd hk (by first | decide | simp)
  · have hv : valT ⟨k, num, str, er⟩ = false := by unfold valT; rw [if_neg h2, if_neg h]
    rw [hv]
    unfold rvalT
    rw [if_neg (fun e => h (.inl e)), if_neg h2, if_neg (fun e => h (.inr (.inl e))), if_neg (fun e => h (.inr (.inr e)))]

end Go.Proofs.YtkjjagmpnnnimaaGreatDoor.M
namespace Go.Proofs.YtkjjagmpnnnimaaGreatDoor
open Go.RowKit M

set_option maxRecDepth 100000 in
set_option maxHeartbeats 3200000 in
theorem rvalid_any (t : TR) (a b : Int) (hs : t.str.length ≤ 140737488355328) (w : World) :
    Calls Tryz.prog 50 #[tkV t a b] w fun e w' => e = .returned (.bool (valT t)) ∧ Below w.heap.size w w' := by
  rw [← rval_eq]
  obtain ⟨k, num, st, er⟩ := t
  show Calls _ _ #[.agg #[.int .i64 k, .int .i64 num, .string (S st), .int .i64 a, .int .i64 b]] _ _
  simp only at hs
  have hsz : (S st).size ≤ 140737488355328 := by show st.toArray.size ≤ _; simpa using hs
  have HNM := Lib.hid (fun W => rname_any (S st) hsz W)
  rw [S_toList] at HNM
  have hn : num = 0 ∨ num ≠ 0 := Classical.em _
  by_cases h1 : k = 1
  · subst h1
    have hV : Hid (rvalT ⟨1, num, st, er⟩ = (decide (num = 0) && nameB st)) := rfl
    generalize rvalT ⟨1, num, st, er⟩ = V at *
    generalize nameB st = nb at *
    rcases hn with rfl | hn
    · have hV2 : Hid (V = nb) := by show V = nb; rw [hV.out]; simp
      clear hV
      go_enter Tryz.func50, Tryz.ntmps50
      go_wp2_with fail
      refine (HNM.out _).mono ?_
      rintro e w1 ⟨rfl, hb1⟩
      have HB1 := Lib.hid hb1
      clear hb1
      go_wp2_with fail
      go_ret
      exact ⟨ret_bool hV2.out.symm, ((Below.refl _ _).alloc (Nat.le_refl _) _).trans (HB1.out.mono (by simp))⟩
    · have hV2 : Hid (V = false) := by show V = false; rw [hV.out, decide_eq_false hn]; rfl
      have g1 : (num == 0) = false := beq_eq_false_iff_ne.2 hn
      clear hV hn
      go_enter Tryz.func50, Tryz.ntmps50
      go_wp2_with fail
      go_ret
      exact ⟨ret_bool hV2.out.symm, (Below.refl _ _).alloc (Nat.le_refl _) _⟩
  by_cases h2 : k = 2
  · subst h2
    have hV : Hid (rvalT ⟨2, num, st, er⟩ = (decide (0 ≤ num) && decide (st = []))) := rfl
    generalize rvalT ⟨2, num, st, er⟩ = V at *
    clear HNM hn h1
    by_cases h0 : 0 ≤ num
    · cases dY : (st == [])
      · have d2 : ¬ st = [] := by intro q; rw [q] at dY; exact absurd dY (by decide)
        have d3 : st.isEmpty = false := by cases st with | nil => exact absurd rfl d2 | cons => rfl
        have hV2 : Hid (V = false) := by show V = false; rw [hV.out, decide_eq_false d2, Bool.and_false]
        clear hV
        go_enter Tryz.func50, Tryz.ntmps50
        go_wp2
        go_ret
        exact ⟨ret_bool hV2.out.symm, (Below.refl _ _).alloc (Nat.le_refl _) _⟩
      · have d2 : st = [] := by simpa using dY
        subst d2
        have hV2 : Hid (V = true) := by show V = true; rw [hV.out, decide_eq_true h0]; rfl
        clear hV dY
        go_enter Tryz.func50, Tryz.ntmps50
        go_wp2
        go_ret
        exact ⟨ret_bool hV2.out.symm, (Below.refl _ _).alloc (Nat.le_refl _) _⟩
    · have hV2 : Hid (V = false) := by show V = false; rw [hV.out, decide_eq_false h0]; rfl
      clear hV
      go_enter Tryz.func50, Tryz.ntmps50
      go_wp2
      go_ret
      exact ⟨ret_bool hV2.out.symm, (Below.refl _ _).alloc (Nat.le_refl _) _⟩
  clear HNM
  by_cases h3 : k = 3
  · subst h3
    have hV : Hid (rvalT ⟨3, num, st, er⟩ = (decide (num = 0) && keywords.contains st)) := rfl
    generalize rvalT ⟨3, num, st, er⟩ = V at *
    rcases hn with rfl | hn
    · have hV2 : Hid (V = keywords.contains st) := by show V = _; rw [hV.out]; simp
      clear hV h1 h2
      go_enter Tryz.func50, Tryz.ntmps50
      go_wp2_with fail
      have HIN := Lib.hid (fun (W : World) (g : Nat) (h : W.heap[g]? = some (strBlock keywords)) => rin_any keywords 25 rfl (by decide) (S st) g W h)
      rw [S_toList] at HIN
      generalize keywords.contains st = nb at *
      have HBZ := ((Below.refl w.heap.size w).alloc (Nat.le_refl _) (.cells #[.int .i64 3, .int .i64 0, .string (S st), .int .i64 a, .int .i64 b] 37)).alloc (by simp) (strBlock keywords)
      first | go_region_with (first | (go_at_call 34; refine (rkeywords_any _).mono ?_; rintro e w1 ⟨rfl, rfl⟩) | (go_at_call 33; refine (HIN.out _ _ (by exact heap_new2 w _ _)).mono ?_; rintro e w2 ⟨rfl, rfl⟩)) | done
      all_goals
        go_wp2_with fail
        go_ret
        exact ⟨ret_bool hV2.out.symm, ⟨HBZ.os, HBZ.tape, HBZ.output, HBZ.size, HBZ.block⟩⟩
    · have hV2 : Hid (V = false) := by show V = false; rw [hV.out, decide_eq_false hn]; rfl
      have g1 : (num == 0) = false := beq_eq_false_iff_ne.2 hn
      clear hV hn h1 h2
      go_enter Tryz.func50, Tryz.ntmps50
      go_wp2_with fail
      have HBZ := (Below.refl w.heap.size w).alloc (Nat.le_refl _) (.cells #[.int .i64 3, .int .i64 num, .string (S st), .int .i64 a, .int .i64 b] 37)
      first | go_region_with (fail) | done
      all_goals
        go_wp2_with fail
        go_ret
        exact ⟨ret_bool hV2.out.symm, ⟨HBZ.os, HBZ.tape, HBZ.output, HBZ.size, HBZ.block⟩⟩
  by_cases h4 : k = 4
  · subst h4
    have hV : Hid (rvalT ⟨4, num, st, er⟩ = (decide (num = 0) && symbolsL.contains st)) := rfl
    generalize rvalT ⟨4, num, st, er⟩ = V at *
    rcases hn with rfl | hn
    · have hV2 : Hid (V = symbolsL.contains st) := by show V = _; rw [hV.out]; simp
      clear hV h1 h2 h3
      go_enter Tryz.func50, Tryz.ntmps50
      go_wp2_with fail
      have HIN := Lib.hid (fun (W : World) (g : Nat) (h : W.heap[g]? = some (strBlock symbolsL)) => rin_any symbolsL 59 rfl (by decide) (S st) g W h)
      rw [S_toList] at HIN
      generalize symbolsL.contains st = nb at *
      have HBZ := ((Below.refl w.heap.size w).alloc (Nat.le_refl _) (.cells #[.int .i64 4, .int .i64 0, .string (S st), .int .i64 a, .int .i64 b] 37)).alloc (by simp) (strBlock symbolsL)
      first | go_region_with (first | (go_at_call 55; refine (symbols_ref _).mono ?_; rintro e w1 ⟨rfl, rfl⟩) | (go_at_call 33; refine (HIN.out _ _ (by exact heap_new2 w _ _)).mono ?_; rintro e w2 ⟨rfl, rfl⟩)) | done
      all_goals
        go_wp2_with fail
        go_ret
        exact ⟨ret_bool hV2.out.symm, ⟨HBZ.os, HBZ.tape, HBZ.output, HBZ.size, HBZ.block⟩⟩
    · have hV2 : Hid (V = false) := by show V = false; rw [hV.out, decide_eq_false hn]; rfl
      have g1 : (num == 0) = false := beq_eq_false_iff_ne.2 hn
      clear hV hn h1 h2 h3
      go_enter Tryz.func50, Tryz.ntmps50
      go_wp2_with fail
      have HBZ := (Below.refl w.heap.size w).alloc (Nat.le_refl _) (.cells #[.int .i64 4, .int .i64 num, .string (S st), .int .i64 a, .int .i64 b] 37)
      first | go_region_with (fail) | done
      all_goals
        go_wp2_with fail
        go_ret
        exact ⟨ret_bool hV2.out.symm, ⟨HBZ.os, HBZ.tape, HBZ.output, HBZ.size, HBZ.block⟩⟩
  · have hV : Hid (rvalT ⟨k, num, st, er⟩ = false) := by show rvalT _ = _; unfold rvalT; rw [if_neg h1, if_neg h2, if_neg h3, if_neg h4]
    generalize rvalT ⟨k, num, st, er⟩ = V at *
    have g1 : (k == 1) = false := beq_eq_false_iff_ne.2 h1
    have g2 : (k == 2) = false := beq_eq_false_iff_ne.2 h2
    have g3 : (k == 3) = false := beq_eq_false_iff_ne.2 h3
    have g4 : (k == 4) = false := beq_eq_false_iff_ne.2 h4
    clear h1 h2 h3 h4 hn
    go_enter Tryz.func50, Tryz.ntmps50
    go_wp2_with fail
    go_ret
    exact ⟨ret_bool hV.out.symm, (Below.refl _ _).alloc (Nat.le_refl _) _⟩

end Go.Proofs.YtkjjagmpnnnimaaGreatDoor
