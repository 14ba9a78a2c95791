/- The reference's begin: the block that a token opens. Condition: fewer than a thousand million tokens, at most 64 blocks. The program's proceed: what a token closes and separates that begins no block. Condition: fewer than a thousand million tokens and blocks. The reference's plain: what a token closes and separates that begins no block. Condition: fewer than a thousand million tokens and blocks. -/
import Derived.Test.YtoogbgmneabfnaaDoorG9
import Derived.Test.YtoogbgmneabfnaaDoorG8
namespace Go.Proofs.YtoogbgmneabfnaaDoor
open Go.RowKit M

def RBegPost (w : World) (Pr : Nat → Prop) (g : Nat) (s : LSt) (r : Int × List Tok × List Int) (e : Ending) (w' : World) : Prop :=
  e = .returned (.int .i64 r.1) ∧ RSt w' Pr g { s with out := r.2.1, cols := r.2.2 } ∧ Keep Pr w w'

set_option maxRecDepth 100000 in
set_option maxHeartbeats 3200000 in
theorem rbegin_any (w : World) (Pr : Nat → Prop) (g : Nat) (s : LSt) (t : TR) (a b x : Int) (r : List Int) (h : RSt w Pr g s) (hc : s.cols = x :: r) (hn : s.out.length ≤ 999999999) (hm : r.length + 1 ≤ 64) :
    Calls Tryd.prog 23 #[.pointer (some ⟨g, 0, none⟩), tkV t a b] w (RBegPost w Pr g s (begL s.out s.cols (t, (a, b)))) := by
  have hB0 := h.more (.cells #[.int .i64 t.kind, .int .i64 t.num, .string (S t.str), .int .i64 a, .int .i64 b] 37)
  have HB0 := Lib.hid hB0
  have HL := Lib.hid h.lt
  have HC := Lib.hid hc
  have HCL := Lib.hid (fun W => rcloser_any W t a b)
  have hR : Hid (begL s.out s.cols (t, (a, b)) = if closB t = true then (0, s.out ++ [mkT 5 (a, b), mkT 7 (a, b)], s.cols)
      else if b ≤ x then (3, s.out, s.cols) else if r.length + 1 = 64 then (10, s.out, s.cols) else (0, s.out ++ [mkT 5 (a, b)], b :: s.cols)) := by
    unfold Hid begL; rw [hc]; rfl
  generalize begL s.out s.cols (t, (a, b)) = R at *
  generalize closB t = cl at *
  clear h hc hB0
  cases cl
  · rw [if_neg (by decide)] at hR
    by_cases g1 : b ≤ x
    · rw [if_pos g1] at hR
      go_enter Tryd.func23, Tryd.ntmps23
      go_wp2_with fail
      refine (HCL.out _).mono ?_
      rintro e w1 ⟨rfl, hb1⟩
      have HB1 := Lib.hid (HB0.out.below hb1)
      have HK1 : Hid (Keep (orOne Pr w.heap.size) (w.alloc (.cells #[.int .i64 t.kind, .int .i64 t.num, .string (S t.str), .int .i64 a, .int .i64 b] 37)) w1) := Keep.below hb1 HB0.out.lt
      have k3 : w1.cell? ⟨w.heap.size, 3, none⟩ = some (.int .i64 a) := box_cell HK1.out 3
      have k4 : w1.cell? ⟨w.heap.size, 4, none⟩ = some (.int .i64 b) := box_cell HK1.out 4
      have HCO := Lib.hid (fun n => rtop_any (w1.drewN n) (orOne Pr w.heap.size) g s x r (HB1.out.drewN n) HC.out (by omega))
      clear hb1
      go_wp2_with fail
      go_quiet ((go_at_call 43; exact Calls.quiet_of (HCO.out _)))
      go_wp2
      go_ret
      rw [hR.out]
      exact ⟨rfl, (HB1.out.drewN _).mono (fun k hk => .inl hk), keep_box HL.out (HK1.out.drewN _)⟩
    · rw [if_neg g1] at hR
      have g1 : x < b := by omega
      by_cases g2 : r.length + 1 = 64
      · rw [if_pos g2] at hR
        go_enter Tryd.func23, Tryd.ntmps23
        go_wp2_with fail
        refine (HCL.out _).mono ?_
        rintro e w1 ⟨rfl, hb1⟩
        have HB1 := Lib.hid (HB0.out.below hb1)
        have HK1 : Hid (Keep (orOne Pr w.heap.size) (w.alloc (.cells #[.int .i64 t.kind, .int .i64 t.num, .string (S t.str), .int .i64 a, .int .i64 b] 37)) w1) := Keep.below hb1 HB0.out.lt
        have k3 : w1.cell? ⟨w.heap.size, 3, none⟩ = some (.int .i64 a) := box_cell HK1.out 3
        have k4 : w1.cell? ⟨w.heap.size, 4, none⟩ = some (.int .i64 b) := box_cell HK1.out 4
        have HCO := Lib.hid (fun n => rtop_any (w1.drewN n) (orOne Pr w.heap.size) g s x r (HB1.out.drewN n) HC.out (by omega))
        obtain ⟨vt, vc, hBA⟩ := HB1.out
        obtain ⟨gc, cap, rfl, _, _, _⟩ := hBA.cform HC.out
        have k5 : w1.cell? ⟨g, 1, none⟩ = some (.slice (some ⟨gc, 0, none⟩) (r.length + 1 : Nat) cap) := hBA.blk.cell 1
        have HG2 := Lib.hid g2
        have g3 : (64 : Int) ≤ (r.length : Int) + 1 := by omega
        clear hb1 hBA g2
        go_wp2_with fail
        go_quiet ((go_at_call 43; exact Calls.quiet_of (HCO.out _)))
        go_wp2
        go_ret
        rw [hR.out]
        exact ⟨rfl, (HB1.out.drewN _).mono (fun k hk => .inl hk), keep_box HL.out (HK1.out.drewN _)⟩
      · rw [if_neg g2] at hR
        go_enter Tryd.func23, Tryd.ntmps23
        go_wp2_with fail
        refine (HCL.out _).mono ?_
        rintro e w1 ⟨rfl, hb1⟩
        have HB1 := Lib.hid (HB0.out.below hb1)
        have HK1 : Hid (Keep (orOne Pr w.heap.size) (w.alloc (.cells #[.int .i64 t.kind, .int .i64 t.num, .string (S t.str), .int .i64 a, .int .i64 b] 37)) w1) := Keep.below hb1 HB0.out.lt
        have k3 : w1.cell? ⟨w.heap.size, 3, none⟩ = some (.int .i64 a) := box_cell HK1.out 3
        have k4 : w1.cell? ⟨w.heap.size, 4, none⟩ = some (.int .i64 b) := box_cell HK1.out 4
        have HCO := Lib.hid (fun n => rtop_any (w1.drewN n) (orOne Pr w.heap.size) g s x r (HB1.out.drewN n) HC.out (by omega))
        obtain ⟨vt, vc, hBA⟩ := HB1.out
        obtain ⟨gc, cap, rfl, _, _, _⟩ := hBA.cform HC.out
        have k5 : w1.cell? ⟨g, 1, none⟩ = some (.slice (some ⟨gc, 0, none⟩) (r.length + 1 : Nat) cap) := hBA.blk.cell 1
        have g3 : (r.length : Int) + 1 < 64 := by omega
        clear hb1 hBA
        go_wp2_with fail
        go_quiet ((go_at_call 43; exact Calls.quiet_of (HCO.out _)))
        go_wp2_with fail
        refine (rput_any _ _ g s 5 a b (HB1.out.drewN _) (by omega)).mono ?_
        rintro e w2 ⟨rfl, ⟨vt2, vc2, hB2⟩, hK2⟩
        obtain ⟨A1, c1, rfl⟩ := owns_form hB2.rc
        obtain ⟨i0, hi0, hz0, hz1, hz2⟩ := info_parts int_info
        have HK2 := Lib.hid ((HK1.out.drewN _).trans hK2)
        have k6 : w2.cell? ⟨g, 1, none⟩ = some (.slice A1 s.cols.length c1) := hB2.blk.cell 1
        have k7 : w2.cell? ⟨w.heap.size, 4, none⟩ = some (.int .i64 b) := box_cell HK2.out 4
        have hg : g < w2.heap.size := hB2.blk.lt
        have hsz : w.heap.size < w2.heap.size := hB2.lt _ (.inr rfl)
        have ag := hB2.gc
        have HB2 := Lib.hid hB2
        have hcl : s.cols.length ≤ 64 := by rw [HC.out]; simpa using hm
        simp only at HB2
        clear hB2 hK2 k5 k3 k4 HCO HCL
        go_wp2_with fail
        go_region_law
          ((refine step_append_lies _ (by rfl) _ _ _ (by rfl) 0 3 i0 _ 1 8 Tryd.underlying23 hi0 hz0 hz1 hz2 rfl (by omega) (.slice A1 s.cols.length c1) s.cols.length (colCells s.cols) (by rfl) ((HB2.out.rc.alloc _).drew)
              ⟨w2.heap.size, 0, none⟩ 1 1 [.int .i64 b] (by rfl) (by rfl) (World.news_of_block (cs := #[.int .i64 b]) (t := 3) (fr := (0, 0)) (heap_alloc_new w2 _)) (by simp [Value.oneCell'])
              (by omega) (by unfold maxLen; omega) (by omega) (by simp) (w2.heap.size + 1) (by simp) ?_; intro gg cap2 w3 hown1 hgrow hat hlt; have hfz : w3.frozen? ⟨g, 1, none⟩ = false := (hgrow.frozen_far ⟨g, 1, none⟩ (by simp; omega) (Ne.symm ag)).trans (((HB2.out.alloc _).drew).blk.frozen 1); have hcz : w3.cell? ⟨g, 1, none⟩ = some (.slice A1 s.cols.length c1) := (hgrow.cell_far ⟨g, 1, none⟩ (by simp; omega) (Ne.symm ag)).trans (((HB2.out.alloc _).drew).blk.cell 1)))
        all_goals
          go_wp2
          go_ret
          have hE := rpushc_end (HB2.out.alloc (.cells #[.int .i64 b] 3)).drew b hown1 hgrow (hat.imp id (fun q => by simp; omega))
          rw [hR.out]
          refine ⟨rfl, hE.1.mono fun k hk => .inl hk, keep_box HL.out ((((HK2.out).alloc (fun k hk => by rcases hk with q | q; (have := HL.out k q; simp; omega); (simp; omega)) (.cells #[.int .i64 b] 3)).drew).trans hE.2)⟩
  · rw [if_pos rfl] at hR
    go_enter Tryd.func23, Tryd.ntmps23
    go_wp2_with fail
    refine (HCL.out _).mono ?_
    rintro e w1 ⟨rfl, hb1⟩
    have HB1 := Lib.hid (HB0.out.below hb1)
    have HK1 : Hid (Keep (orOne Pr w.heap.size) (w.alloc (.cells #[.int .i64 t.kind, .int .i64 t.num, .string (S t.str), .int .i64 a, .int .i64 b] 37)) w1) := Keep.below hb1 HB0.out.lt
    have k3 : w1.cell? ⟨w.heap.size, 3, none⟩ = some (.int .i64 a) := box_cell HK1.out 3
    have k4 : w1.cell? ⟨w.heap.size, 4, none⟩ = some (.int .i64 b) := box_cell HK1.out 4
    clear hb1
    go_wp2_with fail
    refine (rput_any _ _ g s 5 a b HB1.out (by omega)).mono ?_
    rintro e w2 ⟨rfl, hB2, hK2⟩
    have HB2 := Lib.hid hB2
    have HK2 := Lib.hid (HK1.out.trans hK2)
    have k3 : w2.cell? ⟨w.heap.size, 3, none⟩ = some (.int .i64 a) := box_cell HK2.out 3
    have k4 : w2.cell? ⟨w.heap.size, 4, none⟩ = some (.int .i64 b) := box_cell HK2.out 4
    clear hB2 hK2
    go_wp2_with fail
    refine (rput_any _ _ g _ 7 a b HB2.out (by simp; omega)).mono ?_
    rintro e w3 ⟨rfl, hB3, hK3⟩
    have HB3 := Lib.hid hB3
    have HK3 := Lib.hid (HK2.out.trans hK3)
    clear hB3 hK3
    go_wp2
    go_ret
    rw [hR.out]
    refine ⟨rfl, ?_, keep_box HL.out HK3.out⟩
    have := HB3.out.mono (Pr' := Pr) (fun k hk => .inl hk)
    simpa using this

end Go.Proofs.YtoogbgmneabfnaaDoor

namespace Go.Proofs.YtoogbgmneabfnaaDoor
open Go.RowKit M

/-- how many columns the builder holds -/
def colN (w : World) (g : Nat) : Nat := match w.cell? ⟨g, 1, none⟩ with
  | some (.slice _ n _) => n
  | _ => 0
theorem colN_is {w : World} {Pr : Nat → Prop} {g : Nat} {s : LSt} (h : BSt w Pr g s) : colN w g = s.cols.length := by
  obtain ⟨vt, vc, h⟩ := h
  obtain ⟨A, c, rfl⟩ := owns_form h.rc
  have : w.cell? ⟨g, 1, none⟩ = some (.slice A s.cols.length c) := h.blk.cell 1
  unfold colN; rw [this]
/-- what holds at each round's head of the loop that closes blocks -/
def PRel (W : World) (Pr : Nat → Prop) (g : Nat) (s : LSt) (a b : Int) (R : List Tok × List Int) (wr : World) : Prop :=
  ∃ out cols, popC b (a, b) out cols = R ∧ cols.getLast? = some 1 ∧ out.length + cols.length = s.out.length + s.cols.length ∧ cols.length ≤ s.cols.length ∧
    BSt wr Pr g { s with out := out, cols := cols } ∧ Keep Pr W wr
theorem popC_cons (c : Int) (p : Int × Int) (out : List Tok) (x : Int) (r : List Int) : popC c p out (x :: r) = if c < x then popC c p (out ++ [mkT 7 p]) r else (out, x :: r) := rfl

set_option maxRecDepth 100000 in
set_option maxHeartbeats 3200000 in
theorem proceed_line (w : World) (Pr : Nat → Prop) (g : Nat) (s : LSt) (t : TR) (a b : Int) (h : BSt w Pr g s) (hl : s.cols.getLast? = some 1) (hb : 1 ≤ b) (hn : s.out.length + s.cols.length ≤ 999999998) :
    Calls Tryd.prog 35 #[.pointer (some ⟨g, 0, none⟩), tkV t a b, .bool true] w
      (BPost w Pr g { s with out := (procL s.out s.cols (t, (a, b)) true).1, cols := (procL s.out s.cols (t, (a, b)) true).2 }) := by
  have HB0 := Lib.hid (h.more (.cells #[.int .i64 t.kind, .int .i64 t.num, .string (S t.str), .int .i64 a, .int .i64 b] 37))
  have HL := Lib.hid h.lt
  have HCL := Lib.hid (fun W => closer_any W t a b)
  have hN : Hid (colN (w.alloc (.cells #[.int .i64 t.kind, .int .i64 t.num, .string (S t.str), .int .i64 a, .int .i64 b] 37)) g = s.cols.length) := colN_is HB0.out
  have hP : Hid (procL s.out s.cols (t, (a, b)) true = if closB t = true then (if (popC b (a, b) s.out s.cols).2.length = s.cols.length ∧ 1 < s.cols.length then ((popC b (a, b) s.out s.cols).1 ++ [mkT 7 (a, b)], (popC b (a, b) s.out s.cols).2.tail) else popC b (a, b) s.out s.cols)
      else if b = (popC b (a, b) s.out s.cols).2.headD 0 then ((popC b (a, b) s.out s.cols).1 ++ [mkT 6 (a, b)], (popC b (a, b) s.out s.cols).2) else popC b (a, b) s.out s.cols) := by
    unfold Hid procL procE popS; simp
  have hpop := popC_ne b (a, b) hb s.cols s.out hl
  have HPOP := Lib.hid hpop
  obtain ⟨vt, vc, hBA⟩ := HB0.out
  obtain ⟨A0, c0, rfl⟩ := owns_form hBA.rc
  have k0 : (w.alloc (.cells #[.int .i64 t.kind, .int .i64 t.num, .string (S t.str), .int .i64 a, .int .i64 b] 37)).cell? ⟨g, 1, none⟩ = some (.slice A0 s.cols.length c0) := hBA.blk.cell 1
  have HLA := Lib.hid hl
  generalize procL s.out s.cols (t, (a, b)) true = Q at *
  generalize closB t = cl at *
  obtain ⟨R, hR⟩ : ∃ R, popC b (a, b) s.out s.cols = R := ⟨_, rfl⟩
  rw [hR] at hP HPOP
  have HR := Lib.hid hR
  clear h hl hpop hBA hR
  go_enter Tryd.func35, Tryd.ntmps35
  go_wp2_with fail
  clear k0
  go_loopw [] (fun wr => PRel (w.alloc (.cells #[.int .i64 t.kind, .int .i64 t.num, .string (S t.str), .int .i64 a, .int .i64 b] 37)) (orOne Pr w.heap.size) g s a b R wr) (fun wr => colN wr g)
  case atStart => exact ⟨s.out, s.cols, HR.out, HLA.out, rfl, Nat.le_refl _, HB0.out, Keep.refl _ _⟩
  case round =>
    obtain ⟨out, cols, hR, hla, hlen, hle, hB, hK⟩ := hrel
    cases cols with
    | nil => simp at hla
    | cons x r =>
      have k3 : wr.cell? ⟨w.heap.size, 3, none⟩ = some (.int .i64 a) := box_cell hK 3
      have k4 : wr.cell? ⟨w.heap.size, 4, none⟩ = some (.int .i64 b) := box_cell hK 4
      rw [List.length_cons] at hlen hle
      have HCO := Lib.hid (fun n => column_any (wr.drewN n) (orOne Pr w.heap.size) g _ x r (hB.drewN n) rfl (by omega))
      have HCN := Lib.hid (colN_is hB)
      have HB := Lib.hid hB
      have HK := Lib.hid hK
      clear hB hK
      rw [popC_cons] at hR
      by_cases hlt : b < x
      · rw [if_pos hlt] at hR
        have hla2 : r.getLast? = some 1 := by
          cases r with
          | nil => simp at hla; omega
          | cons y q => simpa using hla
        have HLA2 := Lib.hid hla2
        have HR2 := Lib.hid hR
        clear hla hla2 hR
        go_wp2_with fail
        go_quiet ((go_at_call 53; exact Calls.quiet_of (HCO.out _)))
        go_wp2_with fail
        refine (close_any _ _ g _ a b x r (HB.out.drewN _) rfl (by simp; omega) (by omega)).mono ?_
        rintro e w2 ⟨rfl, hB2, hK2⟩
        have HB2 := Lib.hid hB2
        have HK2 := Lib.hid ((HK.out.drewN _).trans hK2)
        have HN2 := Lib.hid (colN_is hB2)
        clear hB2 hK2
        go_wp2
        go_roundw
        case rel => exact ⟨out ++ [mkT 7 (a, b)], r, HR2.out, HLA2.out, by simp; omega, by omega, HB2.out, HK2.out⟩
        case measure => rw [HN2.out, HCN.out]; simp
      · rw [if_neg hlt] at hR
        subst hR
        obtain ⟨vt, vc, hBA⟩ := HB.out
        obtain ⟨gc, cap, rfl, _, _, _⟩ := hBA.cform rfl
        have k5 : wr.cell? ⟨g, 1, none⟩ = some (.slice (some ⟨gc, 0, none⟩) (r.length + 1 : Nat) cap) := hBA.blk.cell 1
        clear hBA hla
        have hk0 : wr.cell? ⟨w.heap.size, 0, none⟩ = some (.int .i64 t.kind) := box_cell HK.out 0
        have hk1 : wr.cell? ⟨w.heap.size, 1, none⟩ = some (.int .i64 t.num) := box_cell HK.out 1
        have hk2 : wr.cell? ⟨w.heap.size, 2, none⟩ = some (.string (S t.str)) := box_cell HK.out 2
        cases cl
        · rw [if_neg (by decide)] at hP
          by_cases hbx : b = x
          · have hQ : Hid (Q = (out ++ [mkT 6 (a, b)], x :: r)) := hP.out.trans (if_pos hbx)
            subst hbx
            clear hP HPOP
            go_wp2_with fail
            go_quiet ((go_at_call 53; exact Calls.quiet_of (HCO.out _)))
            go_wp2_with fail
            refine (HCL.out _).mono ?_
            rintro e w2 ⟨rfl, hb2⟩
            have HB2 := Lib.hid ((HB.out.drewN _).below hb2)
            have HK2 := Lib.hid ((HK.out.drewN _).trans (Keep.below hb2 (HB.out.drewN _).lt))
            have k3 : w2.cell? ⟨w.heap.size, 3, none⟩ = some (.int .i64 a) := box_cell HK2.out 3
            have k4 : w2.cell? ⟨w.heap.size, 4, none⟩ = some (.int .i64 b) := box_cell HK2.out 4
            have HCO2 := Lib.hid (fun n => column_any (w2.drewN n) (orOne Pr w.heap.size) g _ b r (HB2.out.drewN n) rfl (by omega))
            clear hb2
            go_wp2_with fail
            go_quiet ((go_at_call 53; exact Calls.quiet_of (HCO2.out _)))
            go_wp2_with fail
            refine (insert_any _ _ g _ 6 a b (HB2.out.drewN _) (by simp; omega)).mono ?_
            rintro e w3 ⟨rfl, hB3, hK3⟩
            have HB3 := Lib.hid hB3
            have HK3 := Lib.hid ((HK2.out.drewN _).trans hK3)
            clear hB3 hK3
            go_wp2
            go_end0
            rw [hQ.out]
            exact ⟨rfl, HB3.out.mono (fun k hk => .inl hk), keep_box HL.out HK3.out⟩
          · have hQ : Hid (Q = (out, x :: r)) := hP.out.trans (if_neg hbx)
            have g1 : (b == x) = false := beq_eq_false_iff_ne.2 hbx
            clear hP HPOP
            go_wp2_with fail
            go_quiet ((go_at_call 53; exact Calls.quiet_of (HCO.out _)))
            go_wp2_with fail
            refine (HCL.out _).mono ?_
            rintro e w2 ⟨rfl, hb2⟩
            have HB2 := Lib.hid ((HB.out.drewN _).below hb2)
            have HK2 := Lib.hid ((HK.out.drewN _).trans (Keep.below hb2 (HB.out.drewN _).lt))
            have k3 : w2.cell? ⟨w.heap.size, 3, none⟩ = some (.int .i64 a) := box_cell HK2.out 3
            have k4 : w2.cell? ⟨w.heap.size, 4, none⟩ = some (.int .i64 b) := box_cell HK2.out 4
            have HCO2 := Lib.hid (fun n => column_any (w2.drewN n) (orOne Pr w.heap.size) g _ x r (HB2.out.drewN n) rfl (by omega))
            clear hb2
            go_wp2_with fail
            go_quiet ((go_at_call 53; exact Calls.quiet_of (HCO2.out _)))
            go_wp2
            go_end0
            rw [hQ.out]
            exact ⟨rfl, (HB2.out.drewN _).mono (fun k hk => .inl hk), keep_box HL.out (HK2.out.drewN _)⟩
        · rw [if_pos rfl] at hP
          by_cases h1 : r.length + 1 = s.cols.length ∧ 1 < s.cols.length
          · have hQ : Hid (Q = (out ++ [mkT 7 (a, b)], r)) := hP.out.trans (if_pos h1)
            obtain ⟨h1a, h1b⟩ := h1
            have h1c := Lib.hid h1a
            have g1 : (((r.length + 1 : Nat) : Int) == (s.cols.length : Int)) = true := by rw [h1a]; simp
            have g2 : ((r.length : Int) + 1 == (s.cols.length : Int)) = true := beq_iff_eq.2 (by omega)
            clear hP HPOP h1a
            go_wp2_with fail
            go_quiet ((go_at_call 53; exact Calls.quiet_of (HCO.out _)))
            go_wp2_with fail
            refine (HCL.out _).mono ?_
            rintro e w2 ⟨rfl, hb2⟩
            have HB2 := Lib.hid ((HB.out.drewN _).below hb2)
            have HK2 := Lib.hid ((HK.out.drewN _).trans (Keep.below hb2 (HB.out.drewN _).lt))
            have k3 : w2.cell? ⟨w.heap.size, 3, none⟩ = some (.int .i64 a) := box_cell HK2.out 3
            have k4 : w2.cell? ⟨w.heap.size, 4, none⟩ = some (.int .i64 b) := box_cell HK2.out 4
            obtain ⟨vt2, vc2, hBA⟩ := HB2.out
            obtain ⟨gc2, cap2, rfl, _, _, _⟩ := hBA.cform rfl
            have k6 : w2.cell? ⟨g, 1, none⟩ = some (.slice (some ⟨gc2, 0, none⟩) (r.length + 1 : Nat) cap2) := hBA.blk.cell 1
            clear hb2 hBA
            go_wp2_with fail
            refine (close_any _ _ g _ a b x r HB2.out rfl (by simp; omega) (by omega)).mono ?_
            rintro e w3 ⟨rfl, hB3, hK3⟩
            have HB3 := Lib.hid hB3
            have HK3 := Lib.hid (HK2.out.trans hK3)
            clear hB3 hK3
            go_wp2
            go_end0
            rw [hQ.out]
            exact ⟨rfl, HB3.out.mono (fun k hk => .inl hk), keep_box HL.out HK3.out⟩
          · have hQ : Hid (Q = (out, x :: r)) := hP.out.trans (if_neg h1)
            have key : ((((r.length + 1 : Nat) : Int) == (s.cols.length : Int)) = false ∧ ((r.length : Int) + 1 == (s.cols.length : Int)) = false) ∨
                ((((r.length + 1 : Nat) : Int) == (s.cols.length : Int)) = true ∧ ((r.length : Int) + 1 == (s.cols.length : Int)) = true ∧ (s.cols.length : Int) ≤ 1) := by
              by_cases q : r.length + 1 = s.cols.length
              · right; exact ⟨by rw [q]; simp, beq_iff_eq.2 (by omega), by omega⟩
              · left; exact ⟨beq_eq_false_iff_ne.2 (by omega), beq_eq_false_iff_ne.2 (by omega)⟩
            clear hP HPOP h1
            rcases key with ⟨g1, g2⟩ | ⟨g1, g2, g3⟩
            all_goals
              go_wp2_with fail
              go_quiet ((go_at_call 53; exact Calls.quiet_of (HCO.out _)))
              go_wp2_with fail
              refine (HCL.out _).mono ?_
              rintro e w2 ⟨rfl, hb2⟩
              have HB2 := Lib.hid ((HB.out.drewN _).below hb2)
              have HK2 := Lib.hid ((HK.out.drewN _).trans (Keep.below hb2 (HB.out.drewN _).lt))
              obtain ⟨vt2, vc2, hBA⟩ := HB2.out
              obtain ⟨gc2, cap2, rfl, _, _, _⟩ := hBA.cform rfl
              have k6 : w2.cell? ⟨g, 1, none⟩ = some (.slice (some ⟨gc2, 0, none⟩) (r.length + 1 : Nat) cap2) := hBA.blk.cell 1
              clear hb2 hBA
              go_wp2
              go_end0
              rw [hQ.out]
              exact ⟨rfl, HB2.out.mono (fun k hk => .inl hk), keep_box HL.out HK2.out⟩

end Go.Proofs.YtoogbgmneabfnaaDoor

namespace Go.Proofs.YtoogbgmneabfnaaDoor
open Go.RowKit M

set_option maxRecDepth 100000 in
set_option maxHeartbeats 3200000 in
theorem rplain_same (w : World) (Pr : Nat → Prop) (g : Nat) (s : LSt) (t : TR) (a b : Int) (h : RSt w Pr g s) (hl : s.cols ≠ []) (hn : s.out.length + s.cols.length ≤ 999999998) :
    Calls Tryd.prog 24 #[.pointer (some ⟨g, 0, none⟩), tkV t a b, .bool false] w
      (RPost w Pr g { s with out := (procL s.out s.cols (t, (a, b)) false).1, cols := (procL s.out s.cols (t, (a, b)) false).2 }) := by
  have HB0 := Lib.hid (h.more (.cells #[.int .i64 t.kind, .int .i64 t.num, .string (S t.str), .int .i64 a, .int .i64 b] 37))
  have HL := Lib.hid h.lt
  have HCL := Lib.hid (fun W => rcloser_any W t a b)
  have hP : Hid (procL s.out s.cols (t, (a, b)) false = if closB t = true then (if 1 < s.cols.length then (s.out ++ [mkT 7 (a, b)], s.cols.tail) else (s.out, s.cols)) else (s.out, s.cols)) := by
    unfold Hid procL procE popS; simp
  generalize procL s.out s.cols (t, (a, b)) false = Q at *
  generalize closB t = cl at *
  obtain ⟨out, cols, la, it, li⟩ := s
  cases cols with
  | nil => exact absurd rfl hl
  | cons x r =>
    simp only at hP hn
    obtain ⟨vt, vc, hBA⟩ := HB0.out
    obtain ⟨gc, cap, rfl, _, _, _⟩ := hBA.cform rfl
    have k0 : (w.alloc (.cells #[.int .i64 t.kind, .int .i64 t.num, .string (S t.str), .int .i64 a, .int .i64 b] 37)).cell? ⟨g, 1, none⟩ = some (.slice (some ⟨gc, 0, none⟩) (r.length + 1 : Nat) cap) := hBA.blk.cell 1
    rw [List.length_cons] at hn hP
    clear h hl hBA
    go_enter Tryd.func24, Tryd.ntmps24
    go_wp2_with fail
    clear k0
    go_loopw [6] (fun c wr => c = .bool false ∧ Hid (∃ n, wr = (w.alloc (.cells #[.int .i64 t.kind, .int .i64 t.num, .string (S t.str), .int .i64 a, .int .i64 b] 37)).drewN n)) (fun _ wr => 0)
    case atStart => exact ⟨rfl, 0, rfl⟩
    case round =>
      obtain ⟨rfl, hw⟩ := hrel
      obtain ⟨n, hw⟩ := hw.out
      subst hw
      go_wp2_with fail
      go_quiet (fail)
      go_wp2_with fail
      refine (HCL.out _).mono ?_
      rintro e w2 ⟨rfl, hb2⟩
      have HB2 := Lib.hid ((HB0.out.drewN _).below hb2)
      have HK2 := Lib.hid (((Keep.refl (orOne Pr w.heap.size) _).drewN _).trans (Keep.below hb2 (HB0.out.drewN _).lt))
      have k3 : w2.cell? ⟨w.heap.size, 3, none⟩ = some (.int .i64 a) := box_cell HK2.out 3
      have k4 : w2.cell? ⟨w.heap.size, 4, none⟩ = some (.int .i64 b) := box_cell HK2.out 4
      obtain ⟨vt2, vc2, hBA⟩ := HB2.out
      obtain ⟨gc2, cap2, rfl, _, _, _⟩ := hBA.cform rfl
      have k6 : w2.cell? ⟨g, 1, none⟩ = some (.slice (some ⟨gc2, 0, none⟩) (r.length + 1 : Nat) cap2) := hBA.blk.cell 1
      clear hb2 hBA
      cases cl
      · rw [if_neg (by decide)] at hP
        go_wp2_with fail
        go_quiet (fail)
        go_wp2
        go_end0
        rw [hP.out]
        exact ⟨rfl, (HB2.out.drewN _).mono (fun k hk => .inl hk), keep_box HL.out (HK2.out.drewN _)⟩
      · rw [if_pos rfl] at hP
        by_cases h1 : 1 < r.length + 1
        · rw [if_pos h1] at hP
          go_wp2_with fail
          refine (rclose_any _ _ g _ a b x r HB2.out rfl (by simp; omega) (by omega)).mono ?_
          rintro e w3 ⟨rfl, hB3, hK3⟩
          have HB3 := Lib.hid hB3
          have HK3 := Lib.hid (HK2.out.trans hK3)
          clear hB3 hK3
          go_wp2_with fail
          go_quiet (fail)
          go_wp2
          go_end0
          rw [hP.out]
          exact ⟨rfl, (HB3.out.drewN _).mono (fun k hk => .inl hk), keep_box HL.out (HK3.out.drewN _)⟩
        · rw [if_neg h1] at hP
          go_wp2_with fail
          go_quiet (fail)
          go_wp2
          go_end0
          rw [hP.out]
          exact ⟨rfl, (HB2.out.drewN _).mono (fun k hk => .inl hk), keep_box HL.out (HK2.out.drewN _)⟩

/-- the cells that plain's last test reads, and what holds beside them -/
def HeldP (w0 : World) (Pr : Nat → Prop) (bx g : Nat) (s : LSt) (W : World) : Prop := RSt W Pr g s ∧ Keep Pr w0 W ∧ Pr bx
def HeldS (w0 : World) (Pr : Nat → Prop) (bx g : Nat) (s : LSt) (t : TR) (a b : Int) (A0 : Option Addr) (N c0 : Nat) (W : World) : Prop :=
  W.cell? ⟨bx, 0, none⟩ = some (.int .i64 t.kind) ∧ W.cell? ⟨bx, 1, none⟩ = some (.int .i64 t.num) ∧ W.cell? ⟨bx, 2, none⟩ = some (.string (S t.str)) ∧ W.cell? ⟨bx, 3, none⟩ = some (.int .i64 a) ∧ W.cell? ⟨bx, 4, none⟩ = some (.int .i64 b) ∧
    W.cell? ⟨g, 0, none⟩ = some (.slice A0 N c0) ∧ Hid (HeldP w0 Pr bx g s W)
section
variable {w0 : World} {Pr : Nat → Prop} {bx g : Nat} {s : LSt} {t : TR} {a b : Int} {A0 : Option Addr} {N c0 : Nat} {W W' : World}
theorem RSt.blt (h : RSt W Pr g s) : g < W.heap.size := by obtain ⟨_, _, h⟩ := h; exact h.blk.lt
theorem HeldS.below (h : HeldS w0 Pr bx g s t a b A0 N c0 W) (hb : Below W.heap.size W W') : HeldS w0 Pr bx g s t a b A0 N c0 W' := by
  obtain ⟨h0, h1, h2, h3, h4, h5, h6, h7, h8⟩ := h
  have hx := h6.lt _ h8
  exact ⟨(hb.cell (p := ⟨bx, 0, none⟩) hx).trans h0, (hb.cell (p := ⟨bx, 1, none⟩) hx).trans h1, (hb.cell (p := ⟨bx, 2, none⟩) hx).trans h2, (hb.cell (p := ⟨bx, 3, none⟩) hx).trans h3, (hb.cell (p := ⟨bx, 4, none⟩) hx).trans h4,
    (hb.cell (p := ⟨g, 0, none⟩) h6.blt).trans h5, h6.below hb, h7.trans (Keep.below hb h6.lt), h8⟩
theorem HeldS.drewN (h : HeldS w0 Pr bx g s t a b A0 N c0 W) (n : Nat) : HeldS w0 Pr bx g s t a b A0 N c0 (W.drewN n) := h.below ⟨rfl, rfl, rfl, Nat.le_refl _, fun _ _ => rfl⟩
theorem HeldS.drew (h : HeldS w0 Pr bx g s t a b A0 N c0 W) : HeldS w0 Pr bx g s t a b A0 N c0 W.drew := h.drewN 1
theorem HeldS.st (h : HeldS w0 Pr bx g s t a b A0 N c0 W) : RSt W Pr g s := h.2.2.2.2.2.2.1
theorem HeldS.kp (h : HeldS w0 Pr bx g s t a b A0 N c0 W) : Keep Pr w0 W := h.2.2.2.2.2.2.2.1
theorem rcloser_held (h : HeldS w0 Pr bx g s t a b A0 N c0 W) :
    Calls Tryd.prog 42 #[tkV t a b] W fun e w' => e = .returned (.bool (closB t)) ∧ HeldS w0 Pr bx g s t a b A0 N c0 w' :=
  (rcloser_any W t a b).mono fun _ _ ⟨he, hw⟩ => ⟨he, h.below hw⟩
theorem rtop_held {x : Int} {r : List Int} (hc : s.cols = x :: r) (hm : r.length ≤ 1000000000) (h : HeldS w0 Pr bx g s t a b A0 N c0 W) :
    Calls Tryd.prog 43 #[.pointer (some ⟨g, 0, none⟩)] W fun e w' => e = .returned (.int .i64 x) ∧ HeldS w0 Pr bx g s t a b A0 N c0 w' :=
  (rtop_any W Pr g s x r h.st hc hm).mono fun _ _ ⟨he, m, hw⟩ => ⟨he, by rw [hw]; exact h.drewN m⟩
theorem held_make (h : RSt W Pr g s) (hk : Keep Pr w0 W) (hb : Pr bx) (h0 : W.cell? ⟨bx, 0, none⟩ = some (.int .i64 t.kind)) (h1 : W.cell? ⟨bx, 1, none⟩ = some (.int .i64 t.num)) (h2 : W.cell? ⟨bx, 2, none⟩ = some (.string (S t.str)))
    (h3 : W.cell? ⟨bx, 3, none⟩ = some (.int .i64 a)) (h4 : W.cell? ⟨bx, 4, none⟩ = some (.int .i64 b)) : ∃ A0 c0, HeldS w0 Pr bx g s t a b A0 s.out.length c0 W := by
  obtain ⟨vt, vc, q⟩ := h
  obtain ⟨A0, c0, rfl⟩ := owns_form q.rt
  exact ⟨A0, c0, h0, h1, h2, h3, h4, q.blk.cell 0, ⟨_, _, q⟩, hk, hb⟩
end

end Go.Proofs.YtoogbgmneabfnaaDoor
