/- The reference's closer and after. No conditions. The reference's begin: the block that a token opens. Condition: fewer than a thousand million tokens, at most 64 blocks. The program's proceed: what a token closes and separates that begins no block. Condition: fewer than a thousand million tokens and blocks. -/
import Derived.Test.YtkjjagmpnnnimaaGreatDoorQ21
import Derived.Test.YtkjjagmpnnnimaaGreatDoorQ20
namespace Go.Proofs.YtkjjagmpnnnimaaGreatDoor
open Go.RowKit M

set_option maxHeartbeats 2000000 in
theorem rcloser_any (w : World) (t : TR) (a b : Int) :
    Calls Tryz.prog 64 #[tkV t a b] w fun e w' => e = .returned (.bool (closB t)) ∧ Below w.heap.size w w' := by
  obtain ⟨kd, nu, st, er⟩ := t
  show Calls _ _ #[.agg #[.int .i64 kd, .int .i64 nu, .string (S st), .int .i64 a, .int .i64 b]] _ fun e w' => e = .returned (.bool (decide (kd = 3) && (decide (st = kwWithin) || decide (st = kwExports) || decide (st = kwEndmodule) || decide (st = kwEndtimed)))) ∧ Below w.heap.size w w'
  rw [← beqEq, ← beqEq, ← beqEq, ← beqEq]
  unfold kwWithin kwExports kwEndmodule kwEndtimed
  by_cases hk : kd = 3
  · have g0 : (kd == 3) = true := by simp [hk]
    rw [decide_eq_true hk]
    clear hk
    cases d1 : (st == [119, 105, 116, 104, 105, 110])
    · cases d2 : (st == [101, 120, 112, 111, 114, 116, 115])
      · cases d3 : (st == [101, 110, 100, 109, 111, 100, 117, 108, 101])
        · cases d4 : (st == [101, 110, 100, 116, 105, 109, 101, 100])
          all_goals
            go_enter Tryz.func64, Tryz.ntmps64
            go_wp2
            go_ret
            exact ⟨rfl, (Below.refl _ _).alloc (Nat.le_refl _) _⟩
        · go_enter Tryz.func64, Tryz.ntmps64
          go_wp2
          go_ret
          exact ⟨rfl, (Below.refl _ _).alloc (Nat.le_refl _) _⟩
      · go_enter Tryz.func64, Tryz.ntmps64
        go_wp2
        go_ret
        exact ⟨rfl, (Below.refl _ _).alloc (Nat.le_refl _) _⟩
    · go_enter Tryz.func64, Tryz.ntmps64
      go_wp2
      go_ret
      exact ⟨rfl, (Below.refl _ _).alloc (Nat.le_refl _) _⟩
  · have g0 : (kd == 3) = false := by simp [hk]
    rw [decide_eq_false hk]
    clear hk
    go_enter Tryz.func64, Tryz.ntmps64
    go_wp2
    go_ret
    exact ⟨rfl, (Below.refl _ _).alloc (Nat.le_refl _) _⟩

set_option maxHeartbeats 1000000 in
theorem rafter_any (w : World) (p q : Int × Int) :
    Calls Tryz.prog 51 #[posV p.1 p.2, posV q.1 q.2] w fun e w' => e = .returned (.bool (aftB p q)) ∧ Below w.heap.size w w' := by
  obtain ⟨a, b⟩ := p
  obtain ⟨c, d⟩ := q
  go_enter Tryz.func51, Tryz.ntmps51
  go_wp2
  all_goals
    go_ret
    exact ⟨ret_bool (by unfold aftB; rw [Bool.eq_iff_iff]; simp; omega), ((Below.refl _ _).alloc (Nat.le_refl _) _).alloc (by simp) _⟩

end Go.Proofs.YtkjjagmpnnnimaaGreatDoor

namespace Go.Proofs.YtkjjagmpnnnimaaGreatDoor
open Go.RowKit M

def RBegPost (w : World) (Pr : Nat → Prop) (g : Nat) (s : LSt) (r : Int × List Tok × List Int) (e : Ending) (w' : World) : Prop :=
  e = .returned (.int .i64 r.1) ∧ RSt w' Pr g { s with out := r.2.1, cols := r.2.2 } ∧ Keep Pr w w'

set_option maxRecDepth 100000 in
set_option maxHeartbeats 3200000 in
theorem rbegin_any (w : World) (Pr : Nat → Prop) (g : Nat) (s : LSt) (t : TR) (a b x : Int) (r : List Int) (h : RSt w Pr g s) (hc : s.cols = x :: r) (hn : s.out.length ≤ 999999999) (hm : r.length + 1 ≤ 64) :
    Calls Tryz.prog 52 #[.pointer (some ⟨g, 0, none⟩), tkV t a b] w (RBegPost w Pr g s (begL s.out s.cols (t, (a, b)))) := by
  have hB0 := h.more (.cells #[.int .i64 t.kind, .int .i64 t.num, .string (S t.str), .int .i64 a, .int .i64 b] 37)
  have HB0 := Lib.hid hB0
  have HL := Lib.hid h.lt
  have HC := Lib.hid hc
  have HCL := Lib.hid (fun W => rcloser_any W t a b)
  have hR : Hid (begL s.out s.cols (t, (a, b)) = if closB t = true then (0, s.out ++ [mkT 5 (a, b), mkT 7 (a, b)], s.cols)
      else if b ≤ x then (3, s.out, s.cols) else if r.length + 1 = 64 then (10, s.out, s.cols) else (0, s.out ++ [mkT 5 (a, b)], b :: s.cols)) := by
    unfold Hid begL; rw [hc]; rfl
  generalize begL s.out s.cols (t, (a, b)) = R at *
  generalize closB t = cl at *
  clear h hc hB0
  cases cl
  · rw [if_neg (by decide)] at hR
    by_cases g1 : b ≤ x
    · rw [if_pos g1] at hR
      go_enter Tryz.func52, Tryz.ntmps52
      go_wp2_with fail
      refine (HCL.out _).mono ?_
      rintro e w1 ⟨rfl, hb1⟩
      have HB1 := Lib.hid (HB0.out.below hb1)
      have HK1 : Hid (Keep (orOne Pr w.heap.size) (w.alloc (.cells #[.int .i64 t.kind, .int .i64 t.num, .string (S t.str), .int .i64 a, .int .i64 b] 37)) w1) := Keep.below hb1 HB0.out.lt
      have k3 : w1.cell? ⟨w.heap.size, 3, none⟩ = some (.int .i64 a) := box_cell HK1.out 3
      have k4 : w1.cell? ⟨w.heap.size, 4, none⟩ = some (.int .i64 b) := box_cell HK1.out 4
      have HCO := Lib.hid (fun n => rtop_any (w1.drewN n) (orOne Pr w.heap.size) g s x r (HB1.out.drewN n) HC.out (by omega))
      clear hb1
      go_wp2_with fail
      go_quiet ((go_at_call 65; exact Calls.quiet_of (HCO.out _)))
      go_wp2
      go_ret
      rw [hR.out]
      exact ⟨rfl, (HB1.out.drewN _).mono (fun k hk => .inl hk), keep_box HL.out (HK1.out.drewN _)⟩
    · rw [if_neg g1] at hR
      have g1 : x < b := by omega
      by_cases g2 : r.length + 1 = 64
      · rw [if_pos g2] at hR
        go_enter Tryz.func52, Tryz.ntmps52
        go_wp2_with fail
        refine (HCL.out _).mono ?_
        rintro e w1 ⟨rfl, hb1⟩
        have HB1 := Lib.hid (HB0.out.below hb1)
        have HK1 : Hid (Keep (orOne Pr w.heap.size) (w.alloc (.cells #[.int .i64 t.kind, .int .i64 t.num, .string (S t.str), .int .i64 a, .int .i64 b] 37)) w1) := Keep.below hb1 HB0.out.lt
        have k3 : w1.cell? ⟨w.heap.size, 3, none⟩ = some (.int .i64 a) := box_cell HK1.out 3
        have k4 : w1.cell? ⟨w.heap.size, 4, none⟩ = some (.int .i64 b) := box_cell HK1.out 4
        have HCO := Lib.hid (fun n => rtop_any (w1.drewN n) (orOne Pr w.heap.size) g s x r (HB1.out.drewN n) HC.out (by omega))
        obtain ⟨vt, vc, hBA⟩ := HB1.out
        obtain ⟨gc, cap, rfl, _, _, _⟩ := hBA.cform HC.out
        have k5 : w1.cell? ⟨g, 1, none⟩ = some (.slice (some ⟨gc, 0, none⟩) (r.length + 1 : Nat) cap) := hBA.blk.cell 1
        have HG2 := Lib.hid g2
        have g3 : (64 : Int) ≤ (r.length : Int) + 1 := by omega
        clear hb1 hBA g2
        go_wp2_with fail
        go_quiet ((go_at_call 65; exact Calls.quiet_of (HCO.out _)))
        go_wp2
        go_ret
        rw [hR.out]
        exact ⟨rfl, (HB1.out.drewN _).mono (fun k hk => .inl hk), keep_box HL.out (HK1.out.drewN _)⟩
      · rw [if_neg g2] at hR
        go_enter Tryz.func52, Tryz.ntmps52
        go_wp2_with fail
        refine (HCL.out _).mono ?_
        rintro e w1 ⟨rfl, hb1⟩
        have HB1 := Lib.hid (HB0.out.below hb1)
        have HK1 : Hid (Keep (orOne Pr w.heap.size) (w.alloc (.cells #[.int .i64 t.kind, .int .i64 t.num, .string (S t.str), .int .i64 a, .int .i64 b] 37)) w1) := Keep.below hb1 HB0.out.lt
        have k3 : w1.cell? ⟨w.heap.size, 3, none⟩ = some (.int .i64 a) := box_cell HK1.out 3
        have k4 : w1.cell? ⟨w.heap.size, 4, none⟩ = some (.int .i64 b) := box_cell HK1.out 4
        have HCO := Lib.hid (fun n => rtop_any (w1.drewN n) (orOne Pr w.heap.size) g s x r (HB1.out.drewN n) HC.out (by omega))
        obtain ⟨vt, vc, hBA⟩ := HB1.out
        obtain ⟨gc, cap, rfl, _, _, _⟩ := hBA.cform HC.out
        have k5 : w1.cell? ⟨g, 1, none⟩ = some (.slice (some ⟨gc, 0, none⟩) (r.length + 1 : Nat) cap) := hBA.blk.cell 1
        have g3 : (r.length : Int) + 1 < 64 := by omega
        clear hb1 hBA
        go_wp2_with fail
        go_quiet ((go_at_call 65; exact Calls.quiet_of (HCO.out _)))
        go_wp2_with fail
        refine (rput_any _ _ g s 5 a b (HB1.out.drewN _) (by omega)).mono ?_
        rintro e w2 ⟨rfl, ⟨vt2, vc2, hB2⟩, hK2⟩
        obtain ⟨A1, c1, rfl⟩ := owns_form hB2.rc
        obtain ⟨i0, hi0, hz0, hz1, hz2⟩ := info_parts int_info
        have HK2 := Lib.hid ((HK1.out.drewN _).trans hK2)
        have k6 : w2.cell? ⟨g, 1, none⟩ = some (.slice A1 s.cols.length c1) := hB2.blk.cell 1
        have k7 : w2.cell? ⟨w.heap.size, 4, none⟩ = some (.int .i64 b) := box_cell HK2.out 4
        have hg : g < w2.heap.size := hB2.blk.lt
        have hsz : w.heap.size < w2.heap.size := hB2.lt _ (.inr rfl)
        have ag := hB2.gc
        have HB2 := Lib.hid hB2
        have hcl : s.cols.length ≤ 64 := by rw [HC.out]; simpa using hm
        simp only at HB2
        clear hB2 hK2 k5 k3 k4 HCO HCL
        go_wp2_with fail
        go_region_law
          ((refine step_append_lies _ (by rfl) _ _ _ (by rfl) 0 3 i0 _ 1 8 Tryz.underlying22 hi0 hz0 hz1 hz2 rfl (by omega) (.slice A1 s.cols.length c1) s.cols.length (colCells s.cols) (by rfl) ((HB2.out.rc.alloc _).drew)
              ⟨w2.heap.size, 0, none⟩ 1 1 [.int .i64 b] (by rfl) (by rfl) (World.news_of_block (cs := #[.int .i64 b]) (t := 3) (fr := (0, 0)) (heap_alloc_new w2 _)) (by simp [Value.oneCell'])
              (by omega) (by unfold maxLen; omega) (by omega) (by simp) (w2.heap.size + 1) (by simp) ?_; intro gg cap2 w3 hown1 hgrow hat hlt; have hfz : w3.frozen? ⟨g, 1, none⟩ = false := (hgrow.frozen_far ⟨g, 1, none⟩ (by simp; omega) (Ne.symm ag)).trans (((HB2.out.alloc _).drew).blk.frozen 1); have hcz : w3.cell? ⟨g, 1, none⟩ = some (.slice A1 s.cols.length c1) := (hgrow.cell_far ⟨g, 1, none⟩ (by simp; omega) (Ne.symm ag)).trans (((HB2.out.alloc _).drew).blk.cell 1)))
        all_goals
          go_wp2
          go_ret
          have hE := rpushc_end (HB2.out.alloc (.cells #[.int .i64 b] 3)).drew b hown1 hgrow (hat.imp id (fun q => by simp; omega))
          rw [hR.out]
          refine ⟨rfl, hE.1.mono fun k hk => .inl hk, keep_box HL.out ((((HK2.out).alloc (fun k hk => by rcases hk with q | q; (have := HL.out k q; simp; omega); (simp; omega)) (.cells #[.int .i64 b] 3)).drew).trans hE.2)⟩
  · rw [if_pos rfl] at hR
    go_enter Tryz.func52, Tryz.ntmps52
    go_wp2_with fail
    refine (HCL.out _).mono ?_
    rintro e w1 ⟨rfl, hb1⟩
    have HB1 := Lib.hid (HB0.out.below hb1)
    have HK1 : Hid (Keep (orOne Pr w.heap.size) (w.alloc (.cells #[.int .i64 t.kind, .int .i64 t.num, .string (S t.str), .int .i64 a, .int .i64 b] 37)) w1) := Keep.below hb1 HB0.out.lt
    have k3 : w1.cell? ⟨w.heap.size, 3, none⟩ = some (.int .i64 a) := box_cell HK1.out 3
    have k4 : w1.cell? ⟨w.heap.size, 4, none⟩ = some (.int .i64 b) := box_cell HK1.out 4
    clear hb1
    go_wp2_with fail
    refine (rput_any _ _ g s 5 a b HB1.out (by omega)).mono ?_
    rintro e w2 ⟨rfl, hB2, hK2⟩
    have HB2 := Lib.hid hB2
    have HK2 := Lib.hid (HK1.out.trans hK2)
    have k3 : w2.cell? ⟨w.heap.size, 3, none⟩ = some (.int .i64 a) := box_cell HK2.out 3
    have k4 : w2.cell? ⟨w.heap.size, 4, none⟩ = some (.int .i64 b) := box_cell HK2.out 4
    clear hB2 hK2
    go_wp2_with fail
    refine (rput_any _ _ g _ 7 a b HB2.out (by simp; omega)).mono ?_
    rintro e w3 ⟨rfl, hB3, hK3⟩
    have HB3 := Lib.hid hB3
    have HK3 := Lib.hid (HK2.out.trans hK3)
    clear hB3 hK3
    go_wp2
    go_ret
    rw [hR.out]
    refine ⟨rfl, ?_, keep_box HL.out HK3.out⟩
    have := HB3.out.mono (Pr' := Pr) (fun k hk => .inl hk)
    simpa using this

end Go.Proofs.YtkjjagmpnnnimaaGreatDoor

namespace Go.Proofs.YtkjjagmpnnnimaaGreatDoor
open Go.RowKit M

/-- how many columns the builder holds -/
def colN (w : World) (g : Nat) : Nat := match w.cell? ⟨g, 1, none⟩ with
  | some (.slice _ n _) => n
  | _ => 0
theorem colN_is {w : World} {Pr : Nat → Prop} {g : Nat} {s : LSt} (h : BSt w Pr g s) : colN w g = s.cols.length := by
  obtain ⟨vt, vc, h⟩ := h
  obtain ⟨A, c, rfl⟩ := owns_form h.rc
  have : w.cell? ⟨g, 1, none⟩ = some (.slice A s.cols.length c) := h.blk.cell 1
  unfold colN; rw [this]
/-- what holds at each round's head of the loop that closes blocks -/
def PRel (W : World) (Pr : Nat → Prop) (g : Nat) (s : LSt) (a b : Int) (R : List Tok × List Int) (wr : World) : Prop :=
  ∃ out cols, popC b (a, b) out cols = R ∧ cols.getLast? = some 1 ∧ out.length + cols.length = s.out.length + s.cols.length ∧ cols.length ≤ s.cols.length ∧
    BSt wr Pr g { s with out := out, cols := cols } ∧ Keep Pr W wr
theorem popC_cons (c : Int) (p : Int × Int) (out : List Tok) (x : Int) (r : List Int) : popC c p out (x :: r) = if c < x then popC c p (out ++ [mkT 7 p]) r else (out, x :: r) := rfl

set_option maxRecDepth 100000 in
set_option maxHeartbeats 3200000 in
theorem proceed_line (w : World) (Pr : Nat → Prop) (g : Nat) (s : LSt) (t : TR) (a b : Int) (h : BSt w Pr g s) (hl : s.cols.getLast? = some 1) (hb : 1 ≤ b) (hn : s.out.length + s.cols.length ≤ 999999998) :
    Calls Tryz.prog 61 #[.pointer (some ⟨g, 0, none⟩), tkV t a b, .bool true] w
      (BPost w Pr g { s with out := (procL s.out s.cols (t, (a, b)) true).1, cols := (procL s.out s.cols (t, (a, b)) true).2 }) := by
  have HB0 := Lib.hid (h.more (.cells #[.int .i64 t.kind, .int .i64 t.num, .string (S t.str), .int .i64 a, .int .i64 b] 37))
  have HL := Lib.hid h.lt
  have HCL := Lib.hid (fun W => closer_any W t a b)
  have hN : Hid (colN (w.alloc (.cells #[.int .i64 t.kind, .int .i64 t.num, .string (S t.str), .int .i64 a, .int .i64 b] 37)) g = s.cols.length) := colN_is HB0.out
  have hP : Hid (procL s.out s.cols (t, (a, b)) true = if closB t = true then (if (popC b (a, b) s.out s.cols).2.length = s.cols.length ∧ 1 < s.cols.length then ((popC b (a, b) s.out s.cols).1 ++ [mkT 7 (a, b)], (popC b (a, b) s.out s.cols).2.tail) else popC b (a, b) s.out s.cols)
      else if b = (popC b (a, b) s.out s.cols).2.headD 0 then ((popC b (a, b) s.out s.cols).1 ++ [mkT 6 (a, b)], (popC b (a, b) s.out s.cols).2) else popC b (a, b) s.out s.cols) := by
    unfold Hid procL procE popS; simp
  have hpop := popC_ne b (a, b) hb s.cols s.out hl
  have HPOP := Lib.hid hpop
  obtain ⟨vt, vc, hBA⟩ := HB0.out
  obtain ⟨A0, c0, rfl⟩ := owns_form hBA.rc
  have k0 : (w.alloc (.cells #[.int .i64 t.kind, .int .i64 t.num, .string (S t.str), .int .i64 a, .int .i64 b] 37)).cell? ⟨g, 1, none⟩ = some (.slice A0 s.cols.length c0) := hBA.blk.cell 1
  have HLA := Lib.hid hl
  generalize procL s.out s.cols (t, (a, b)) true = Q at *
  generalize closB t = cl at *
  obtain ⟨R, hR⟩ : ∃ R, popC b (a, b) s.out s.cols = R := ⟨_, rfl⟩
  rw [hR] at hP HPOP
  have HR := Lib.hid hR
  clear h hl hpop hBA hR
  go_enter Tryz.func61, Tryz.ntmps61
  go_wp2_with fail
  clear k0
  go_loopw [] (fun wr => PRel (w.alloc (.cells #[.int .i64 t.kind, .int .i64 t.num, .string (S t.str), .int .i64 a, .int .i64 b] 37)) (orOne Pr w.heap.size) g s a b R wr) (fun wr => colN wr g)
  case atStart => exact ⟨s.out, s.cols, HR.out, HLA.out, rfl, Nat.le_refl _, HB0.out, Keep.refl _ _⟩
  case round =>
    obtain ⟨out, cols, hR, hla, hlen, hle, hB, hK⟩ := hrel
    cases cols with
    | nil => simp at hla
    | cons x r =>
      have k3 : wr.cell? ⟨w.heap.size, 3, none⟩ = some (.int .i64 a) := box_cell hK 3
      have k4 : wr.cell? ⟨w.heap.size, 4, none⟩ = some (.int .i64 b) := box_cell hK 4
      rw [List.length_cons] at hlen hle
      have HCO := Lib.hid (fun n => column_any (wr.drewN n) (orOne Pr w.heap.size) g _ x r (hB.drewN n) rfl (by omega))
      have HCN := Lib.hid (colN_is hB)
      have HB := Lib.hid hB
      have HK := Lib.hid hK
      clear hB hK
      rw [popC_cons] at hR
      by_cases hlt : b < x
      · rw [if_pos hlt] at hR
        have hla2 : r.getLast? = some 1 := by
          cases r with
          | nil => simp at hla; omega
          | cons y q => simpa using hla
        have HLA2 := Lib.hid hla2
        have HR2 := Lib.hid hR
        clear hla hla2 hR
        go_wp2_with fail
        go_quiet ((go_at_call 68; exact Calls.quiet_of (HCO.out _)))
        go_wp2_with fail
        refine (close_any _ _ g _ a b x r (HB.out.drewN _) rfl (by simp; omega) (by omega)).mono ?_
        rintro e w2 ⟨rfl, hB2, hK2⟩
        have HB2 := Lib.hid hB2
        have HK2 := Lib.hid ((HK.out.drewN _).trans hK2)
        have HN2 := Lib.hid (colN_is hB2)
        clear hB2 hK2
        go_wp2
        go_roundw
        case rel => exact ⟨out ++ [mkT 7 (a, b)], r, HR2.out, HLA2.out, by simp; omega, by omega, HB2.out, HK2.out⟩
        case measure => rw [HN2.out, HCN.out]; simp
      · rw [if_neg hlt] at hR
        subst hR
        obtain ⟨vt, vc, hBA⟩ := HB.out
        obtain ⟨gc, cap, rfl, _, _, _⟩ := hBA.cform rfl
        have k5 : wr.cell? ⟨g, 1, none⟩ = some (.slice (some ⟨gc, 0, none⟩) (r.length + 1 : Nat) cap) := hBA.blk.cell 1
        clear hBA hla
        have hk0 : wr.cell? ⟨w.heap.size, 0, none⟩ = some (.int .i64 t.kind) := box_cell HK.out 0
        have hk1 : wr.cell? ⟨w.heap.size, 1, none⟩ = some (.int .i64 t.num) := box_cell HK.out 1
        have hk2 : wr.cell? ⟨w.heap.size, 2, none⟩ = some (.string (S t.str)) := box_cell HK.out 2
        cases cl
        · rw [if_neg (by decide)] at hP
          by_cases hbx : b = x
          · have hQ : Hid (Q = (out ++ [mkT 6 (a, b)], x :: r)) := hP.out.trans (if_pos hbx)
            subst hbx
            clear hP HPOP
            go_wp2_with fail
            go_quiet ((go_at_call 68; exact Calls.quiet_of (HCO.out _)))
            go_wp2_with fail
            refine (HCL.out _).mono ?_
            rintro e w2 ⟨rfl, hb2⟩
            have HB2 := Lib.hid ((HB.out.drewN _).below hb2)
            have HK2 := Lib.hid ((HK.out.drewN _).trans (Keep.below hb2 (HB.out.drewN _).lt))
            have k3 : w2.cell? ⟨w.heap.size, 3, none⟩ = some (.int .i64 a) := box_cell HK2.out 3
            have k4 : w2.cell? ⟨w.heap.size, 4, none⟩ = some (.int .i64 b) := box_cell HK2.out 4
            have HCO2 := Lib.hid (fun n => column_any (w2.drewN n) (orOne Pr w.heap.size) g _ b r (HB2.out.drewN n) rfl (by omega))
            clear hb2
            go_wp2_with fail
            go_quiet ((go_at_call 68; exact Calls.quiet_of (HCO2.out _)))
            go_wp2_with fail
            refine (insert_any _ _ g _ 6 a b (HB2.out.drewN _) (by simp; omega)).mono ?_
            rintro e w3 ⟨rfl, hB3, hK3⟩
            have HB3 := Lib.hid hB3
            have HK3 := Lib.hid ((HK2.out.drewN _).trans hK3)
            clear hB3 hK3
            go_wp2
            go_end0
            rw [hQ.out]
            exact ⟨rfl, HB3.out.mono (fun k hk => .inl hk), keep_box HL.out HK3.out⟩
          · have hQ : Hid (Q = (out, x :: r)) := hP.out.trans (if_neg hbx)
            have g1 : (b == x) = false := beq_eq_false_iff_ne.2 hbx
            clear hP HPOP
            go_wp2_with fail
            go_quiet ((go_at_call 68; exact Calls.quiet_of (HCO.out _)))
            go_wp2_with fail
            refine (HCL.out _).mono ?_
            rintro e w2 ⟨rfl, hb2⟩
            have HB2 := Lib.hid ((HB.out.drewN _).below hb2)
            have HK2 := Lib.hid ((HK.out.drewN _).trans (Keep.below hb2 (HB.out.drewN _).lt))
            have k3 : w2.cell? ⟨w.heap.size, 3, none⟩ = some (.int .i64 a) := box_cell HK2.out 3
            have k4 : w2.cell? ⟨w.heap.size, 4, none⟩ = some (.int .i64 b) := box_cell HK2.out 4
            have HCO2 := Lib.hid (fun n => column_any (w2.drewN n) (orOne Pr w.heap.size) g _ x r (HB2.out.drewN n) rfl (by omega))
            clear hb2
            go_wp2_with fail
            go_quiet ((go_at_call 68; exact Calls.quiet_of (HCO2.out _)))
            go_wp2
            go_end0
            rw [hQ.out]
            exact ⟨rfl, (HB2.out.drewN _).mono (fun k hk => .inl hk), keep_box HL.out (HK2.out.drewN _)⟩
        · rw [if_pos rfl] at hP
          by_cases h1 : r.length + 1 = s.cols.length ∧ 1 < s.cols.length
          · have hQ : Hid (Q = (out ++ [mkT 7 (a, b)], r)) := hP.out.trans (if_pos h1)
            obtain ⟨h1a, h1b⟩ := h1
            have h1c := Lib.hid h1a
            have g1 : (((r.length + 1 : Nat) : Int) == (s.cols.length : Int)) = true := by rw [h1a]; simp
            have g2 : ((r.length : Int) + 1 == (s.cols.length : Int)) = true := beq_iff_eq.2 (by omega)
            clear hP HPOP h1a
            go_wp2_with fail
            go_quiet ((go_at_call 68; exact Calls.quiet_of (HCO.out _)))
            go_wp2_with fail
            refine (HCL.out _).mono ?_
            rintro e w2 ⟨rfl, hb2⟩
            have HB2 := Lib.hid ((HB.out.drewN _).below hb2)
            have HK2 := Lib.hid ((HK.out.drewN _).trans (Keep.below hb2 (HB.out.drewN _).lt))
            have k3 : w2.cell? ⟨w.heap.size, 3, none⟩ = some (.int .i64 a) := box_cell HK2.out 3
            have k4 : w2.cell? ⟨w.heap.size, 4, none⟩ = some (.int .i64 b) := box_cell HK2.out 4
            obtain ⟨vt2, vc2, hBA⟩ := HB2.out
            obtain ⟨gc2, cap2, rfl, _, _, _⟩ := hBA.cform rfl
            have k6 : w2.cell? ⟨g, 1, none⟩ = some (.slice (some ⟨gc2, 0, none⟩) (r.length + 1 : Nat) cap2) := hBA.blk.cell 1
            clear hb2 hBA
            go_wp2_with fail
            refine (close_any _ _ g _ a b x r HB2.out rfl (by simp; omega) (by omega)).mono ?_
            rintro e w3 ⟨rfl, hB3, hK3⟩
            have HB3 := Lib.hid hB3
            have HK3 := Lib.hid (HK2.out.trans hK3)
            clear hB3 hK3
            go_wp2
            go_end0
            rw [hQ.out]
            exact ⟨rfl, HB3.out.mono (fun k hk => .inl hk), keep_box HL.out HK3.out⟩
          · have hQ : Hid (Q = (out, x :: r)) := hP.out.trans (if_neg h1)
            have key : ((((r.length + 1 : Nat) : Int) == (s.cols.length : Int)) = false ∧ ((r.length : Int) + 1 == (s.cols.length : Int)) = false) ∨
                ((((r.length + 1 : Nat) : Int) == (s.cols.length : Int)) = true ∧ ((r.length : Int) + 1 == (s.cols.length : Int)) = true ∧ (s.cols.length : Int) ≤ 1) := by
              by_cases q : r.length + 1 = s.cols.length
              · right; exact ⟨by rw [q]; simp, beq_iff_eq.2 (by omega), by omega⟩
              · left; exact ⟨beq_eq_false_iff_ne.2 (by omega), beq_eq_false_iff_ne.2 (by omega)⟩
            clear hP HPOP h1
            rcases key with ⟨g1, g2⟩ | ⟨g1, g2, g3⟩
            all_goals
              go_wp2_with fail
              go_quiet ((go_at_call 68; exact Calls.quiet_of (HCO.out _)))
              go_wp2_with fail
              refine (HCL.out _).mono ?_
              rintro e w2 ⟨rfl, hb2⟩
              have HB2 := Lib.hid ((HB.out.drewN _).below hb2)
              have HK2 := Lib.hid ((HK.out.drewN _).trans (Keep.below hb2 (HB.out.drewN _).lt))
              obtain ⟨vt2, vc2, hBA⟩ := HB2.out
              obtain ⟨gc2, cap2, rfl, _, _, _⟩ := hBA.cform rfl
              have k6 : w2.cell? ⟨g, 1, none⟩ = some (.slice (some ⟨gc2, 0, none⟩) (r.length + 1 : Nat) cap2) := hBA.blk.cell 1
              clear hb2 hBA
              go_wp2
              go_end0
              rw [hQ.out]
              exact ⟨rfl, HB2.out.mono (fun k hk => .inl hk), keep_box HL.out HK2.out⟩

end Go.Proofs.YtkjjagmpnnnimaaGreatDoor
