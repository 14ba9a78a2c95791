/- The reference's plain: what a token closes and separates that begins no block. Condition: fewer than a thousand million tokens and blocks. The reference's plain at a line's first token. Condition: fewer than a thousand million tokens and blocks. -/
import Derived.Test.YtkjjagmpnnnimaaGreatDoorQ22
import Derived.Deep.DrawnRows
namespace Go.Proofs.YtkjjagmpnnnimaaGreatDoor
open Go.RowKit M

set_option maxRecDepth 100000 in
set_option maxHeartbeats 3200000 in
theorem rplain_same (w : World) (Pr : Nat → Prop) (g : Nat) (s : LSt) (t : TR) (a b : Int) (h : RSt w Pr g s) (hl : s.cols ≠ []) (hn : s.out.length + s.cols.length ≤ 999999998) :
    Calls Tryz.prog 53 #[.pointer (some ⟨g, 0, none⟩), tkV t a b, .bool false] w
      (RPost w Pr g { s with out := (procL s.out s.cols (t, (a, b)) false).1, cols := (procL s.out s.cols (t, (a, b)) false).2 }) := by
  have HB0 := Lib.hid (h.more (.cells #[.int .i64 t.kind, .int .i64 t.num, .string (S t.str), .int .i64 a, .int .i64 b] 37))
  have HL := Lib.hid h.lt
  have HCL := Lib.hid (fun W => rcloser_any W t a b)
  have hP : Hid (procL s.out s.cols (t, (a, b)) false = if closB t = true then (if 1 < s.cols.length then (s.out ++ [mkT 7 (a, b)], s.cols.tail) else (s.out, s.cols)) else (s.out, s.cols)) := by
    unfold Hid procL procE popS; simp
  generalize procL s.out s.cols (t, (a, b)) false = Q at *
  generalize closB t = cl at *
  obtain ⟨out, cols, la, it, li⟩ := s
  cases cols with
  | nil => exact absurd rfl hl
  | cons x r =>
    simp only at hP hn
    obtain ⟨vt, vc, hBA⟩ := HB0.out
    obtain ⟨gc, cap, rfl, _, _, _⟩ := hBA.cform rfl
    have k0 : (w.alloc (.cells #[.int .i64 t.kind, .int .i64 t.num, .string (S t.str), .int .i64 a, .int .i64 b] 37)).cell? ⟨g, 1, none⟩ = some (.slice (some ⟨gc, 0, none⟩) (r.length + 1 : Nat) cap) := hBA.blk.cell 1
    rw [List.length_cons] at hn hP
    clear h hl hBA
    go_enter Tryz.func53, Tryz.ntmps53
    go_wp2_with fail
    clear k0
    go_loopw [6] (fun c wr => c = .bool false ∧ Hid (∃ n, wr = (w.alloc (.cells #[.int .i64 t.kind, .int .i64 t.num, .string (S t.str), .int .i64 a, .int .i64 b] 37)).drewN n)) (fun _ wr => 0)
    case atStart => exact ⟨rfl, 0, rfl⟩
    case round =>
      obtain ⟨rfl, hw⟩ := hrel
      obtain ⟨n, hw⟩ := hw.out
      subst hw
      go_wp2_with fail
      go_quiet (fail)
      go_wp2_with fail
      refine (HCL.out _).mono ?_
      rintro e w2 ⟨rfl, hb2⟩
      have HB2 := Lib.hid ((HB0.out.drewN _).below hb2)
      have HK2 := Lib.hid (((Keep.refl (orOne Pr w.heap.size) _).drewN _).trans (Keep.below hb2 (HB0.out.drewN _).lt))
      have k3 : w2.cell? ⟨w.heap.size, 3, none⟩ = some (.int .i64 a) := box_cell HK2.out 3
      have k4 : w2.cell? ⟨w.heap.size, 4, none⟩ = some (.int .i64 b) := box_cell HK2.out 4
      obtain ⟨vt2, vc2, hBA⟩ := HB2.out
      obtain ⟨gc2, cap2, rfl, _, _, _⟩ := hBA.cform rfl
      have k6 : w2.cell? ⟨g, 1, none⟩ = some (.slice (some ⟨gc2, 0, none⟩) (r.length + 1 : Nat) cap2) := hBA.blk.cell 1
      clear hb2 hBA
      cases cl
      · rw [if_neg (by decide)] at hP
        go_wp2_with fail
        go_quiet (fail)
        go_wp2
        go_end0
        rw [hP.out]
        exact ⟨rfl, (HB2.out.drewN _).mono (fun k hk => .inl hk), keep_box HL.out (HK2.out.drewN _)⟩
      · rw [if_pos rfl] at hP
        by_cases h1 : 1 < r.length + 1
        · rw [if_pos h1] at hP
          go_wp2_with fail
          refine (rclose_any _ _ g _ a b x r HB2.out rfl (by simp; omega) (by omega)).mono ?_
          rintro e w3 ⟨rfl, hB3, hK3⟩
          have HB3 := Lib.hid hB3
          have HK3 := Lib.hid (HK2.out.trans hK3)
          clear hB3 hK3
          go_wp2_with fail
          go_quiet (fail)
          go_wp2
          go_end0
          rw [hP.out]
          exact ⟨rfl, (HB3.out.drewN _).mono (fun k hk => .inl hk), keep_box HL.out (HK3.out.drewN _)⟩
        · rw [if_neg h1] at hP
          go_wp2_with fail
          go_quiet (fail)
          go_wp2
          go_end0
          rw [hP.out]
          exact ⟨rfl, (HB2.out.drewN _).mono (fun k hk => .inl hk), keep_box HL.out (HK2.out.drewN _)⟩

/-- the cells that plain's last test reads, and what holds beside them -/
def HeldP (w0 : World) (Pr : Nat → Prop) (bx g : Nat) (s : LSt) (W : World) : Prop := RSt W Pr g s ∧ Keep Pr w0 W ∧ Pr bx
def HeldS (w0 : World) (Pr : Nat → Prop) (bx g : Nat) (s : LSt) (t : TR) (a b : Int) (A0 : Option Addr) (N c0 : Nat) (W : World) : Prop :=
  W.cell? ⟨bx, 0, none⟩ = some (.int .i64 t.kind) ∧ W.cell? ⟨bx, 1, none⟩ = some (.int .i64 t.num) ∧ W.cell? ⟨bx, 2, none⟩ = some (.string (S t.str)) ∧ W.cell? ⟨bx, 3, none⟩ = some (.int .i64 a) ∧ W.cell? ⟨bx, 4, none⟩ = some (.int .i64 b) ∧
    W.cell? ⟨g, 0, none⟩ = some (.slice A0 N c0) ∧ Hid (HeldP w0 Pr bx g s W)
section
variable {w0 : World} {Pr : Nat → Prop} {bx g : Nat} {s : LSt} {t : TR} {a b : Int} {A0 : Option Addr} {N c0 : Nat} {W W' : World}
theorem RSt.blt (h : RSt W Pr g s) : g < W.heap.size := by obtain ⟨_, _, h⟩ := h; exact h.blk.lt
theorem HeldS.below (h : HeldS w0 Pr bx g s t a b A0 N c0 W) (hb : Below W.heap.size W W') : HeldS w0 Pr bx g s t a b A0 N c0 W' := by
  obtain ⟨h0, h1, h2, h3, h4, h5, h6, h7, h8⟩ := h
  have hx := h6.lt _ h8
  exact ⟨(hb.cell (p := ⟨bx, 0, none⟩) hx).trans h0, (hb.cell (p := ⟨bx, 1, none⟩) hx).trans h1, (hb.cell (p := ⟨bx, 2, none⟩) hx).trans h2, (hb.cell (p := ⟨bx, 3, none⟩) hx).trans h3, (hb.cell (p := ⟨bx, 4, none⟩) hx).trans h4,
    (hb.cell (p := ⟨g, 0, none⟩) h6.blt).trans h5, h6.below hb, h7.trans (Keep.below hb h6.lt), h8⟩
theorem HeldS.drewN (h : HeldS w0 Pr bx g s t a b A0 N c0 W) (n : Nat) : HeldS w0 Pr bx g s t a b A0 N c0 (W.drewN n) := h.below ⟨rfl, rfl, rfl, Nat.le_refl _, fun _ _ => rfl⟩
theorem HeldS.drew (h : HeldS w0 Pr bx g s t a b A0 N c0 W) : HeldS w0 Pr bx g s t a b A0 N c0 W.drew := h.drewN 1
theorem HeldS.st (h : HeldS w0 Pr bx g s t a b A0 N c0 W) : RSt W Pr g s := h.2.2.2.2.2.2.1
theorem HeldS.kp (h : HeldS w0 Pr bx g s t a b A0 N c0 W) : Keep Pr w0 W := h.2.2.2.2.2.2.2.1
theorem rcloser_held (h : HeldS w0 Pr bx g s t a b A0 N c0 W) :
    Calls Tryz.prog 64 #[tkV t a b] W fun e w' => e = .returned (.bool (closB t)) ∧ HeldS w0 Pr bx g s t a b A0 N c0 w' :=
  (rcloser_any W t a b).mono fun _ _ ⟨he, hw⟩ => ⟨he, h.below hw⟩
theorem rtop_held {x : Int} {r : List Int} (hc : s.cols = x :: r) (hm : r.length ≤ 1000000000) (h : HeldS w0 Pr bx g s t a b A0 N c0 W) :
    Calls Tryz.prog 65 #[.pointer (some ⟨g, 0, none⟩)] W fun e w' => e = .returned (.int .i64 x) ∧ HeldS w0 Pr bx g s t a b A0 N c0 w' :=
  (rtop_any W Pr g s x r h.st hc hm).mono fun _ _ ⟨he, m, hw⟩ => ⟨he, by rw [hw]; exact h.drewN m⟩
theorem held_make (h : RSt W Pr g s) (hk : Keep Pr w0 W) (hb : Pr bx) (h0 : W.cell? ⟨bx, 0, none⟩ = some (.int .i64 t.kind)) (h1 : W.cell? ⟨bx, 1, none⟩ = some (.int .i64 t.num)) (h2 : W.cell? ⟨bx, 2, none⟩ = some (.string (S t.str)))
    (h3 : W.cell? ⟨bx, 3, none⟩ = some (.int .i64 a)) (h4 : W.cell? ⟨bx, 4, none⟩ = some (.int .i64 b)) : ∃ A0 c0, HeldS w0 Pr bx g s t a b A0 s.out.length c0 W := by
  obtain ⟨vt, vc, q⟩ := h
  obtain ⟨A0, c0, rfl⟩ := owns_form q.rt
  exact ⟨A0, c0, h0, h1, h2, h3, h4, q.blk.cell 0, ⟨_, _, q⟩, hk, hb⟩
end

end Go.Proofs.YtkjjagmpnnnimaaGreatDoor

namespace Go.Proofs.YtkjjagmpnnnimaaGreatDoor
open Go.RowKit M
attribute [local go_sem ↓] Go.wp_at_zero Go.wp_at_succ

theorem rcolN_is {w : World} {Pr : Nat → Prop} {g : Nat} {s : LSt} (h : RSt w Pr g s) : colN w g = s.cols.length := by
  obtain ⟨vt, vc, h⟩ := h
  obtain ⟨A, c, rfl⟩ := owns_form h.rc
  have : w.cell? ⟨g, 1, none⟩ = some (.slice A s.cols.length c) := h.blk.cell 1
  unfold colN; rw [this]
/-- what holds at each round's head of the loop that closes blocks -/
def RPRel (W : World) (Pr : Nat → Prop) (g : Nat) (s : LSt) (a b : Int) (R : List Tok × List Int) (c : Value) (wr : World) : Prop :=
  ∃ out cols, c = .bool (decide (cols.length ≠ s.cols.length)) ∧ popC b (a, b) out cols = R ∧ cols.getLast? = some 1 ∧ out.length + cols.length = s.out.length + s.cols.length ∧ cols.length ≤ s.cols.length ∧
    RSt wr Pr g { s with out := out, cols := cols } ∧ Keep Pr W wr

set_option maxRecDepth 100000 in
set_option maxHeartbeats 6400000 in
theorem rplain_line (w : World) (Pr : Nat → Prop) (g : Nat) (s : LSt) (t : TR) (a b : Int) (h : RSt w Pr g s) (hl : s.cols.getLast? = some 1) (hb : 1 ≤ b) (hn : s.out.length + s.cols.length ≤ 999999998) (h2 : 2 ≤ s.out.length) :
    Calls Tryz.prog 53 #[.pointer (some ⟨g, 0, none⟩), tkV t a b, .bool true] w
      (RPost w Pr g { s with out := (procL s.out s.cols (t, (a, b)) true).1, cols := (procL s.out s.cols (t, (a, b)) true).2 }) := by
  have HB0 := Lib.hid (h.more (.cells #[.int .i64 t.kind, .int .i64 t.num, .string (S t.str), .int .i64 a, .int .i64 b] 37))
  have HL := Lib.hid h.lt
  have HCL := Lib.hid (fun W => rcloser_any W t a b)
  have HCH := Lib.hid (fun W w0 s A0 N c0 h => rcloser_held (w0 := w0) (Pr := orOne Pr w.heap.size) (bx := w.heap.size) (g := g) (s := s) (t := t) (a := a) (b := b) (A0 := A0) (N := N) (c0 := c0) (W := W) h)
  have hP : Hid (procL s.out s.cols (t, (a, b)) true = if closB t = true then (if (popC b (a, b) s.out s.cols).2.length = s.cols.length ∧ 1 < s.cols.length then ((popC b (a, b) s.out s.cols).1 ++ [mkT 7 (a, b)], (popC b (a, b) s.out s.cols).2.tail) else popC b (a, b) s.out s.cols)
      else if b = (popC b (a, b) s.out s.cols).2.headD 0 then ((popC b (a, b) s.out s.cols).1 ++ [mkT 6 (a, b)], (popC b (a, b) s.out s.cols).2) else popC b (a, b) s.out s.cols) := by
    unfold Hid procL procE popS; simp
  have HLA := Lib.hid hl
  generalize procL s.out s.cols (t, (a, b)) true = Q at *
  generalize closB t = cl at *
  obtain ⟨R, hR⟩ : ∃ R, popC b (a, b) s.out s.cols = R := ⟨_, rfl⟩
  rw [hR] at hP
  have HR := Lib.hid hR
  clear h hl hR
  go_enter Tryz.func53, Tryz.ntmps53
  go_wp2_with fail
  obtain ⟨w0, hw0⟩ : ∃ w0, w0 = w.alloc (.cells #[.int .i64 t.kind, .int .i64 t.num, .string (S t.str), .int .i64 a, .int .i64 b] 37) := ⟨_, rfl⟩
  have HW0 := Lib.hid hw0
  rw [← hw0] at HB0 ⊢
  have HBX : Hid (∀ (w1 : World) i, Keep (orOne Pr w.heap.size) w0 w1 → w1.cell? ⟨w.heap.size, i, none⟩ = (#[.int .i64 t.kind, .int .i64 t.num, .string (S t.str), .int .i64 a, .int .i64 b] : Array Value)[i]?) := fun w1 i hk => by rw [hw0] at hk; exact box_cell hk i
  have HKB : Hid (∀ w1, Keep (orOne Pr w.heap.size) w0 w1 → Keep Pr w w1) := fun w1 hk => by rw [hw0] at hk; exact keep_box HL.out hk
  clear hw0
  go_loopw [6] (fun c wr => RPRel w0 (orOne Pr w.heap.size) g s a b R c wr) (fun _ wr => colN wr g)
  case atStart => exact ⟨s.out, s.cols, by simp, HR.out, HLA.out, rfl, Nat.le_refl _, HB0.out, Keep.refl _ _⟩
  case round =>
    obtain ⟨out, cols, rfl, hR, hla, hlen, hle, hB, hK⟩ := hrel
    cases cols with
    | nil => simp at hla
    | cons x r =>
      have k3 : wr.cell? ⟨w.heap.size, 3, none⟩ = some (.int .i64 a) := HBX.out _ 3 hK
      have k4 : wr.cell? ⟨w.heap.size, 4, none⟩ = some (.int .i64 b) := HBX.out _ 4 hK
      rw [List.length_cons] at hlen hle
      have HCO := Lib.hid (fun n => rtop_any (wr.drewN n) (orOne Pr w.heap.size) g _ x r (hB.drewN n) rfl (by omega))
      have HCN := Lib.hid (rcolN_is hB)
      have HB := Lib.hid hB
      have HK := Lib.hid hK
      clear hB hK
      rw [popC_cons] at hR
      obtain ⟨cb, hcb⟩ : ∃ cb, decide ((x :: r).length ≠ s.cols.length) = cb := ⟨_, rfl⟩
      rw [hcb]
      have HCB := Lib.hid hcb
      clear hcb
      by_cases hlt : b < x
      · rw [if_pos hlt] at hR
        have hla2 : r.getLast? = some 1 := by
          cases r with
          | nil => simp at hla; omega
          | cons y q => simpa using hla
        have HLA2 := Lib.hid hla2
        have HR2 := Lib.hid hR
        have HD : Hid (decide (r.length ≠ s.cols.length) = true) := decide_eq_true (by omega)
        clear hla hla2 hR
        go_wp2_with fail
        go_quiet ((go_at_call 65; exact Calls.quiet_of (HCO.out _)))
        go_wp2_with fail
        refine (rclose_any _ _ g _ a b x r (HB.out.drewN _) rfl (by simp; omega) (by omega)).mono ?_
        rintro e w2 ⟨rfl, hB2, hK2⟩
        have HB2 := Lib.hid hB2
        have HK2 := Lib.hid ((HK.out.drewN _).trans hK2)
        have HN2 := Lib.hid (rcolN_is hB2)
        clear hB2 hK2
        go_wp2
        go_roundw
        case rel => exact ⟨out ++ [mkT 7 (a, b)], r, by rw [HD.out], HR2.out, HLA2.out, by simp; omega, by omega, HB2.out, HK2.out⟩
        case measure => rw [HN2.out, HCN.out]; simp
      · rw [if_neg hlt] at hR
        subst hR
        have hk0 : wr.cell? ⟨w.heap.size, 0, none⟩ = some (.int .i64 t.kind) := HBX.out _ 0 HK.out
        have hk1 : wr.cell? ⟨w.heap.size, 1, none⟩ = some (.int .i64 t.num) := HBX.out _ 1 HK.out
        have hk2 : wr.cell? ⟨w.heap.size, 2, none⟩ = some (.string (S t.str)) := HBX.out _ 2 HK.out
        have ho2 : 2 ≤ out.length := by omega
        have HTH := Lib.hid (fun W A0 N c0 h => rtop_held (w0 := w0) (Pr := orOne Pr w.heap.size) (bx := w.heap.size) (g := g) (s := { s with out := out, cols := x :: r }) (t := t) (a := a) (b := b) (A0 := A0) (N := N) (c0 := c0) (W := W) (x := x) (r := r) rfl (by omega) h)
        clear hla
        go_wp2_with fail
        go_quiet ((go_at_call 65; exact Calls.quiet_of (HCO.out _)))
        go_wp2_with fail
        refine (HCL.out _).mono ?_
        rintro e w2 ⟨rfl, hb2⟩
        have HB2 := Lib.hid ((HB.out.drewN _).below hb2)
        have HK2 := Lib.hid ((HK.out.drewN _).trans (Keep.below hb2 (HB.out.drewN _).lt))
        have y0 : w2.cell? ⟨w.heap.size, 0, none⟩ = some (.int .i64 t.kind) := HBX.out _ 0 HK2.out
        have y1 : w2.cell? ⟨w.heap.size, 1, none⟩ = some (.int .i64 t.num) := HBX.out _ 1 HK2.out
        have y2 : w2.cell? ⟨w.heap.size, 2, none⟩ = some (.string (S t.str)) := HBX.out _ 2 HK2.out
        have y3 : w2.cell? ⟨w.heap.size, 3, none⟩ = some (.int .i64 a) := HBX.out _ 3 HK2.out
        have y4 : w2.cell? ⟨w.heap.size, 4, none⟩ = some (.int .i64 b) := HBX.out _ 4 HK2.out
        clear hb2 k3 k4 hk0 hk1 hk2 HCO
        cases cl
        · rw [if_neg (by decide)] at hP
          obtain ⟨A0, c0, hS0⟩ := held_make (w0 := w0) HB2.out HK2.out (.inr rfl) y0 y1 y2 y3 y4
          simp only at hS0
          have z0 := hS0.2.2.2.2.2.1
          by_cases hbx : b = x
          · have hQ : Hid (Q = (out ++ [mkT 6 (a, b)], x :: r)) := hP.out.trans (if_pos hbx)
            subst hbx
            clear hP
            go_wp2_with fail
            go_region_held3 (fun W => W.cell? ⟨w.heap.size, 0, none⟩ = some (.int .i64 t.kind) ∧ W.cell? ⟨w.heap.size, 1, none⟩ = some (.int .i64 t.num) ∧ W.cell? ⟨w.heap.size, 2, none⟩ = some (.string (S t.str)) ∧ W.cell? ⟨w.heap.size, 3, none⟩ = some (.int .i64 a) ∧ W.cell? ⟨w.heap.size, 4, none⟩ = some (.int .i64 b) ∧ W.cell? ⟨g, 0, none⟩ = some (.slice A0 out.length c0) ∧ Hid (HeldP w0 (orOne Pr w.heap.size) w.heap.size g { s with out := out, cols := b :: r } W)) (first | exact hS0.drew | exact hS1 | exact hS2) (first | (go_at_call 64; refine (HCH.out _ _ _ _ _ _ hS0.drew).mono ?_; rintro e w3 ⟨rfl, hS1⟩) | (go_at_call 65; refine (HTH.out _ _ _ _ hS1).mono ?_; rintro e w4 ⟨rfl, hS2⟩))
            all_goals
              have HB4 := Lib.hid hS2.st
              have HK4 := Lib.hid hS2.kp
              have y3 : w4.cell? ⟨w.heap.size, 3, none⟩ = some (.int .i64 a) := HBX.out _ 3 HK4.out
              have y4 : w4.cell? ⟨w.heap.size, 4, none⟩ = some (.int .i64 b) := HBX.out _ 4 HK4.out
              clear hS0 hS1 hS2 z0 y0 y1 y2 HTH HCH
              go_wp2_with fail
              refine (rput_any _ _ g _ 6 a b HB4.out (by simp; omega)).mono ?_
              rintro e w5 ⟨rfl, hB5, hK5⟩
              have HB5 := Lib.hid hB5
              have HK5 := Lib.hid (HK4.out.trans hK5)
              clear hB5 hK5
              go_wp2
              go_end0
              rw [hQ.out]
              exact ⟨rfl, HB5.out.mono (fun k hk => .inl hk), HKB.out _ HK5.out⟩
          · have hQ : Hid (Q = (out, x :: r)) := hP.out.trans (if_neg hbx)
            have g1 : (b == x) = false := beq_eq_false_iff_ne.2 hbx
            clear hP
            go_wp2_with fail
            refine wp_region_noPanic ?_
            refine wp_region_held_drew (S := (fun W => W.cell? ⟨w.heap.size, 0, none⟩ = some (.int .i64 t.kind) ∧ W.cell? ⟨w.heap.size, 1, none⟩ = some (.int .i64 t.num) ∧ W.cell? ⟨w.heap.size, 2, none⟩ = some (.string (S t.str)) ∧ W.cell? ⟨w.heap.size, 3, none⟩ = some (.int .i64 a) ∧ W.cell? ⟨w.heap.size, 4, none⟩ = some (.int .i64 b) ∧ W.cell? ⟨g, 0, none⟩ = some (.slice A0 out.length c0) ∧ Hid (HeldP w0 (orOne Pr w.heap.size) w.heap.size g { s with out := out, cols := x :: r } W))) (by kernel_rfl) hS0.drew (fun hHeld => ?_)
            refine wpAnyH_take (i := 0) (oi := { dst := some 38, op := Op.move (Operand.tmp 2), type := 4, pos := "layout.go:63", after := #[], guard := none }) (v := .bool true) rfl (by kernel_rfl) (by kernel_rfl) (by kernel_rfl) (fun _ _ _ h => h) (Or.inl ⟨by rfl, by (intro w hSw; (try dsimp only at hSw); go_simp)⟩) (by assumption) ?_
            try simp only [Act.put, List.setIfInBounds_toArray, List.set_cons_zero, List.set_cons_succ]
            refine wpAnyH_take (i := 1) (oi := { dst := some 39, op := Op.move (Operand.tmp 38), type := 4, pos := "layout.go:63", after := #[{ on := 0, ground := Ground.data }], guard := none }) (v := .bool true) rfl (by kernel_rfl) (by kernel_rfl) (by kernel_rfl) (fun _ _ _ h => h) (Or.inl ⟨by rfl, by (intro w hSw; (try dsimp only at hSw); go_simp)⟩) (by assumption) ?_
            try simp only [Act.put, List.setIfInBounds_toArray, List.set_cons_zero, List.set_cons_succ]
            refine wpAnyH_take (i := 2) (oi := { dst := some 40, op := Op.load 37 (Operand.tmp 4), type := 37, pos := "layout.go:63", after := #[{ on := 1, ground := Ground.guard }], guard := some (1, true) }) (v := tkV t a b) rfl (by kernel_rfl) (by kernel_rfl) (by kernel_rfl) (fun _ _ _ h => h) (Or.inl ⟨by rfl, by (intro w hSw; (try dsimp only at hSw); go_simp)⟩) (by assumption) ?_
            try simp only [Act.put, List.setIfInBounds_toArray, List.set_cons_zero, List.set_cons_succ]
            refine wpAnyH_ready (rs := [3]) (by kernel_rfl) (by simp) ?_
            refine AllReadyH.cons (o := { dst := some 41, op := Op.call { callee := Callee.value (Operand.func 64), args := #[Operand.tmp 40], argTypes := #[37] }, type := 4, pos := "layout.go:63", after := #[{ on := 2, ground := Ground.data }, { on := 1, ground := Ground.chain }, { on := 1, ground := Ground.guard }], guard := some (1, true) }) rfl (fun K hK => ?_) AllReadyH.nil
            go_simp
            (go_at_call 64; refine (HCH.out _ _ _ _ _ _ hS0.drew).mono ?_; rintro e w3 ⟨rfl, hS1⟩)
            dsimp only
            refine hK.out _ _ hS1 (fun hHeld => ?_)
            clear hK K
            try simp only [Act.put, List.setIfInBounds_toArray, List.set_cons_zero, List.set_cons_succ]
            refine wpAnyH_take (i := 4) (oi := { dst := some 42, op := Op.unOp UnOp.not 4 (Operand.tmp 41), type := 4, pos := "layout.go:63", after := #[{ on := 3, ground := Ground.data }, { on := 1, ground := Ground.guard }], guard := some (1, true) }) (v := .bool true) rfl (by kernel_rfl) (by kernel_rfl) (by kernel_rfl) (fun _ _ _ h => h) (Or.inl ⟨by rfl, by (intro w hSw; (try dsimp only at hSw); go_simp)⟩) (by assumption) ?_
            try simp only [Act.put, List.setIfInBounds_toArray, List.set_cons_zero, List.set_cons_succ]
            refine wpAnyH_take (i := 5) (oi := { dst := some 43, op := Op.pick (Operand.tmp 39) (Operand.tmp 42) (Operand.const (Value.bool false)), type := 4, pos := "layout.go:63", after := #[{ on := 1, ground := Ground.data }, { on := 4, ground := Ground.data }], guard := none }) (v := .bool true) rfl (by kernel_rfl) (by kernel_rfl) (by kernel_rfl) (fun _ _ _ h => h) (Or.inl ⟨by rfl, by (intro w hSw; (try dsimp only at hSw); go_simp)⟩) (by assumption) ?_
            try simp only [Act.put, List.setIfInBounds_toArray, List.set_cons_zero, List.set_cons_succ]
            refine wpAnyH_take (i := 6) (oi := { dst := some 44, op := Op.move (Operand.tmp 43), type := 4, pos := "layout.go:63", after := #[{ on := 5, ground := Ground.data }, { on := 3, ground := Ground.chain }], guard := none }) (v := .bool true) rfl (by kernel_rfl) (by kernel_rfl) (by kernel_rfl) (fun _ _ _ h => h) (Or.inl ⟨by rfl, by (intro w hSw; (try dsimp only at hSw); go_simp)⟩) (by assumption) ?_
            try simp only [Act.put, List.setIfInBounds_toArray, List.set_cons_zero, List.set_cons_succ]
            refine wpAnyH_take (i := 7) (oi := { dst := some 45, op := Op.fieldAddr 37 (Operand.tmp 4) 3, type := 0, pos := "layout.go:63", after := #[{ on := 6, ground := Ground.guard }], guard := some (6, true) }) (v := .pointer (some ⟨w.heap.size, 3, none⟩)) rfl (by kernel_rfl) (by kernel_rfl) (by kernel_rfl) (fun _ _ _ h => h) (Or.inl ⟨by rfl, by (intro w hSw; (try dsimp only at hSw); go_simp)⟩) (by assumption) ?_
            try simp only [Act.put, List.setIfInBounds_toArray, List.set_cons_zero, List.set_cons_succ]
            refine wpAnyH_take (i := 8) (oi := { dst := some 46, op := Op.fieldAddr 25 (Operand.tmp 45) 1, type := 0, pos := "layout.go:63", after := #[{ on := 7, ground := Ground.data }, { on := 6, ground := Ground.guard }], guard := some (6, true) }) (v := .pointer (some ⟨w.heap.size, 4, none⟩)) rfl (by kernel_rfl) (by kernel_rfl) (by kernel_rfl) (fun _ _ _ h => h) (Or.inl ⟨by rfl, by (intro w hSw; (try dsimp only at hSw); go_simp)⟩) (by assumption) ?_
            try simp only [Act.put, List.setIfInBounds_toArray, List.set_cons_zero, List.set_cons_succ]
            refine wpAnyH_take (i := 9) (oi := { dst := some 47, op := Op.load 3 (Operand.tmp 46), type := 3, pos := "layout.go:63", after := #[{ on := 8, ground := Ground.data }, { on := 6, ground := Ground.guard }], guard := some (6, true) }) (v := .int .i64 b) rfl (by kernel_rfl) (by kernel_rfl) (by kernel_rfl) (fun _ _ _ h => h) (Or.inl ⟨by rfl, by (intro w hSw; (try dsimp only at hSw); go_simp)⟩) (by assumption) ?_
            try simp only [Act.put, List.setIfInBounds_toArray, List.set_cons_zero, List.set_cons_succ]
            refine wpAnyH_take (i := 10) (oi := { dst := some 48, op := Op.move (Operand.tmp 0), type := 73, pos := "layout.go:63", after := #[{ on := 6, ground := Ground.guard }], guard := some (6, true) }) (v := .pointer (some ⟨g, 0, none⟩)) rfl (by kernel_rfl) (by kernel_rfl) (by kernel_rfl) (fun _ _ _ h => h) (Or.inl ⟨by rfl, by (intro w hSw; (try dsimp only at hSw); go_simp)⟩) (by assumption) ?_
            try simp only [Act.put, List.setIfInBounds_toArray, List.set_cons_zero, List.set_cons_succ]
            refine wpAnyH_ready (rs := [11]) (by kernel_rfl) (by simp) ?_
            refine AllReadyH.cons (o := { dst := some 49, op := Op.call { callee := Callee.value (Operand.func 65), args := #[Operand.tmp 48], argTypes := #[73] }, type := 3, pos := "layout.go:63", after := #[{ on := 10, ground := Ground.data }, { on := 6, ground := Ground.chain }, { on := 6, ground := Ground.guard }], guard := some (6, true) }) rfl (fun K hK => ?_) AllReadyH.nil
            go_simp
            (go_at_call 65; refine (HTH.out _ _ _ _ hS1).mono ?_; rintro e w4 ⟨rfl, hS2⟩)
            dsimp only
            refine hK.out _ _ hS2 (fun hHeld => ?_)
            clear hK K
            try simp only [Act.put, List.setIfInBounds_toArray, List.set_cons_zero, List.set_cons_succ]
            refine wpAnyH_take (i := 12) (oi := { dst := some 50, op := Op.binOp BinOp.eql 3 (Operand.tmp 47) (Operand.tmp 49) 3, type := 4, pos := "layout.go:63", after := #[{ on := 9, ground := Ground.data }, { on := 11, ground := Ground.data }, { on := 6, ground := Ground.guard }], guard := some (6, true) }) (v := .bool false) rfl (by kernel_rfl) (by kernel_rfl) (by kernel_rfl) (fun _ _ _ h => h) (Or.inl ⟨by rfl, by (intro w hSw; (try dsimp only at hSw); go_simp)⟩) (by assumption) ?_
            try simp only [Act.put, List.setIfInBounds_toArray, List.set_cons_zero, List.set_cons_succ]
            refine wpAnyH_take (i := 13) (oi := { dst := some 51, op := Op.pick (Operand.tmp 44) (Operand.tmp 50) (Operand.const (Value.bool false)), type := 4, pos := "layout.go:63", after := #[{ on := 6, ground := Ground.data }, { on := 12, ground := Ground.data }], guard := none }) (v := .bool false) rfl (by kernel_rfl) (by kernel_rfl) (by kernel_rfl) (fun _ _ _ h => h) (Or.inl ⟨by rfl, by (intro w hSw; (try dsimp only at hSw); go_simp)⟩) (by assumption) ?_
            try simp only [Act.put, List.setIfInBounds_toArray, List.set_cons_zero, List.set_cons_succ]
            refine wpAnyH_take (i := 14) (oi := { dst := some 52, op := Op.move (Operand.tmp 51), type := 4, pos := "layout.go:63", after := #[{ on := 13, ground := Ground.data }, { on := 11, ground := Ground.chain }], guard := none }) (v := .bool false) rfl (by kernel_rfl) (by kernel_rfl) (by kernel_rfl) (fun _ _ _ h => h) (Or.inl ⟨by rfl, by (intro w hSw; (try dsimp only at hSw); go_simp)⟩) (by assumption) ?_
            try simp only [Act.put, List.setIfInBounds_toArray, List.set_cons_zero, List.set_cons_succ]
            refine wpAnyH_take (i := 15) (oi := { dst := some 53, op := Op.move (Operand.tmp 0), type := 73, pos := "layout.go:63", after := #[{ on := 14, ground := Ground.guard }], guard := some (14, true) }) (v := undef) rfl (by kernel_rfl) (by kernel_rfl) (by kernel_rfl) (fun _ _ _ h => h) (Or.inr ⟨by rfl, rfl⟩) (by assumption) ?_
            try simp only [Act.put, List.setIfInBounds_toArray, List.set_cons_zero, List.set_cons_succ]
            refine wpAnyH_take (i := 16) (oi := { dst := some 54, op := Op.nilCheck (Operand.tmp 53), type := 0, pos := "layout.go:63", after := #[{ on := 15, ground := Ground.data }, { on := 14, ground := Ground.guard }], guard := some (14, true) }) (v := undef) rfl (by kernel_rfl) (by kernel_rfl) (by kernel_rfl) (fun _ _ _ h => h) (Or.inr ⟨by rfl, rfl⟩) (by assumption) ?_
            try simp only [Act.put, List.setIfInBounds_toArray, List.set_cons_zero, List.set_cons_succ]
            refine wpAnyH_take (i := 17) (oi := { dst := some 55, op := Op.fieldAddr 75 (Operand.tmp 54) 0, type := 0, pos := "layout.go:63", after := #[{ on := 16, ground := Ground.data }, { on := 14, ground := Ground.guard }], guard := some (14, true) }) (v := undef) rfl (by kernel_rfl) (by kernel_rfl) (by kernel_rfl) (fun _ _ _ h => h) (Or.inr ⟨by rfl, rfl⟩) (by assumption) ?_
            try simp only [Act.put, List.setIfInBounds_toArray, List.set_cons_zero, List.set_cons_succ]
            refine wpAnyH_take (i := 18) (oi := { dst := some 56, op := Op.load 23 (Operand.tmp 55), type := 23, pos := "layout.go:63", after := #[{ on := 17, ground := Ground.data }, { on := 14, ground := Ground.guard }], guard := some (14, true) }) (v := undef) rfl (by kernel_rfl) (by kernel_rfl) (by kernel_rfl) (fun _ _ _ h => h) (Or.inr ⟨by rfl, rfl⟩) (by assumption) ?_
            try simp only [Act.put, List.setIfInBounds_toArray, List.set_cons_zero, List.set_cons_succ]
            refine wpAnyH_take (i := 19) (oi := { dst := some 57, op := Op.call { callee := Callee.builtin Builtin.len, args := #[Operand.tmp 56], argTypes := #[23] }, type := 3, pos := "layout.go:63", after := #[{ on := 18, ground := Ground.data }, { on := 14, ground := Ground.guard }], guard := some (14, true) }) (v := undef) rfl (by kernel_rfl) (by kernel_rfl) (by kernel_rfl) (fun _ _ _ h => h) (Or.inr ⟨by rfl, rfl⟩) (by assumption) ?_
            try simp only [Act.put, List.setIfInBounds_toArray, List.set_cons_zero, List.set_cons_succ]
            refine wpAnyH_take (i := 20) (oi := { dst := some 58, op := Op.binOp BinOp.gtr 3 (Operand.tmp 57) (Operand.const (Value.int IntKind.i64 1)) 3, type := 4, pos := "layout.go:63", after := #[{ on := 19, ground := Ground.data }, { on := 14, ground := Ground.guard }], guard := some (14, true) }) (v := undef) rfl (by kernel_rfl) (by kernel_rfl) (by kernel_rfl) (fun _ _ _ h => h) (Or.inr ⟨by rfl, rfl⟩) (by assumption) ?_
            try simp only [Act.put, List.setIfInBounds_toArray, List.set_cons_zero, List.set_cons_succ]
            refine wpAnyH_take (i := 21) (oi := { dst := some 59, op := Op.pick (Operand.tmp 52) (Operand.tmp 58) (Operand.const (Value.bool false)), type := 4, pos := "layout.go:63", after := #[{ on := 14, ground := Ground.data }, { on := 20, ground := Ground.data }], guard := none }) (v := .bool false) rfl (by kernel_rfl) (by kernel_rfl) (by kernel_rfl) (fun _ _ _ h => h) (Or.inl ⟨by rfl, by (intro w hSw; (try dsimp only at hSw); go_simp)⟩) (by assumption) ?_
            try simp only [Act.put, List.setIfInBounds_toArray, List.set_cons_zero, List.set_cons_succ]
            refine wpAnyH_done (by kernel_rfl) ?_ _
            refine NoPanic.normal ?_
            all_goals
              have HB4 := Lib.hid hS2.st
              have HK4 := Lib.hid hS2.kp
              clear hS0 hS1 hS2 z0 y0 y1 y2 HTH HCH
              go_wp2
              go_end0
              rw [hQ.out]
              exact ⟨rfl, HB4.out.mono (fun k hk => .inl hk), HKB.out _ HK4.out⟩
        · rw [if_pos rfl] at hP
          obtain ⟨vt2, vc2, hBA⟩ := HB2.out
          obtain ⟨gc2, cap2, rfl, _, _, _⟩ := hBA.cform rfl
          have k6 : w2.cell? ⟨g, 1, none⟩ = some (.slice (some ⟨gc2, 0, none⟩) (r.length + 1 : Nat) cap2) := hBA.blk.cell 1
          clear hBA
          by_cases h1 : r.length + 1 = s.cols.length ∧ 1 < s.cols.length
          · have hQ : Hid (Q = (out ++ [mkT 7 (a, b)], r)) := hP.out.trans (if_pos h1)
            obtain ⟨h1a, h1b⟩ := h1
            have hcf : cb = false := by rw [← HCB.out, List.length_cons, h1a]; simp
            subst hcf
            have h1c : 1 < r.length + 1 := by omega
            clear hP h1a HTH
            go_wp2_with fail
            refine (rclose_any _ _ g _ a b x r HB2.out rfl (by simp; omega) (by omega)).mono ?_
            rintro e w3 ⟨rfl, hB3, hK3⟩
            have HB3 := Lib.hid hB3
            have HK3 := Lib.hid (HK2.out.trans hK3)
            have y0 : w3.cell? ⟨w.heap.size, 0, none⟩ = some (.int .i64 t.kind) := HBX.out _ 0 HK3.out
            have y1 : w3.cell? ⟨w.heap.size, 1, none⟩ = some (.int .i64 t.num) := HBX.out _ 1 HK3.out
            have y2 : w3.cell? ⟨w.heap.size, 2, none⟩ = some (.string (S t.str)) := HBX.out _ 2 HK3.out
            have y3 : w3.cell? ⟨w.heap.size, 3, none⟩ = some (.int .i64 a) := HBX.out _ 3 HK3.out
            have y4 : w3.cell? ⟨w.heap.size, 4, none⟩ = some (.int .i64 b) := HBX.out _ 4 HK3.out
            clear hB3 hK3 k6
            obtain ⟨A0, c0, hS0⟩ := held_make (w0 := w0) HB3.out HK3.out (.inr rfl) y0 y1 y2 y3 y4
            simp only at hS0
            have z0 := hS0.2.2.2.2.2.1
            go_wp2_with fail
            refine wp_region_noPanic ?_
            refine wp_region_held_drew (S := (fun W => W.cell? ⟨w.heap.size, 0, none⟩ = some (.int .i64 t.kind) ∧ W.cell? ⟨w.heap.size, 1, none⟩ = some (.int .i64 t.num) ∧ W.cell? ⟨w.heap.size, 2, none⟩ = some (.string (S t.str)) ∧ W.cell? ⟨w.heap.size, 3, none⟩ = some (.int .i64 a) ∧ W.cell? ⟨w.heap.size, 4, none⟩ = some (.int .i64 b) ∧ W.cell? ⟨g, 0, none⟩ = some (.slice A0 (out ++ [mkT 7 (a, b)]).length c0) ∧ Hid (HeldP w0 (orOne Pr w.heap.size) w.heap.size g { s with out := out ++ [mkT 7 (a, b)], cols := r } W))) (by kernel_rfl) hS0.drew (fun hHeld => ?_)
            refine wpAnyH_take (i := 0) (oi := { dst := some 38, op := Op.move (Operand.tmp 2), type := 4, pos := "layout.go:63", after := #[], guard := none }) (v := .bool true) rfl (by kernel_rfl) (by kernel_rfl) (by kernel_rfl) (fun _ _ _ h => h) (Or.inl ⟨by rfl, by (intro w hSw; (try dsimp only at hSw); go_simp)⟩) (by assumption) ?_
            try simp only [Act.put, List.setIfInBounds_toArray, List.set_cons_zero, List.set_cons_succ]
            refine wpAnyH_take (i := 1) (oi := { dst := some 39, op := Op.move (Operand.tmp 38), type := 4, pos := "layout.go:63", after := #[{ on := 0, ground := Ground.data }], guard := none }) (v := .bool true) rfl (by kernel_rfl) (by kernel_rfl) (by kernel_rfl) (fun _ _ _ h => h) (Or.inl ⟨by rfl, by (intro w hSw; (try dsimp only at hSw); go_simp)⟩) (by assumption) ?_
            try simp only [Act.put, List.setIfInBounds_toArray, List.set_cons_zero, List.set_cons_succ]
            refine wpAnyH_take (i := 2) (oi := { dst := some 40, op := Op.load 37 (Operand.tmp 4), type := 37, pos := "layout.go:63", after := #[{ on := 1, ground := Ground.guard }], guard := some (1, true) }) (v := tkV t a b) rfl (by kernel_rfl) (by kernel_rfl) (by kernel_rfl) (fun _ _ _ h => h) (Or.inl ⟨by rfl, by (intro w hSw; (try dsimp only at hSw); go_simp)⟩) (by assumption) ?_
            try simp only [Act.put, List.setIfInBounds_toArray, List.set_cons_zero, List.set_cons_succ]
            refine wpAnyH_ready (rs := [3]) (by kernel_rfl) (by simp) ?_
            refine AllReadyH.cons (o := { dst := some 41, op := Op.call { callee := Callee.value (Operand.func 64), args := #[Operand.tmp 40], argTypes := #[37] }, type := 4, pos := "layout.go:63", after := #[{ on := 2, ground := Ground.data }, { on := 1, ground := Ground.chain }, { on := 1, ground := Ground.guard }], guard := some (1, true) }) rfl (fun K hK => ?_) AllReadyH.nil
            go_simp
            (go_at_call 64; refine (HCH.out _ _ _ _ _ _ hS0.drew).mono ?_; rintro e w6 ⟨rfl, hS1⟩)
            dsimp only
            refine hK.out _ _ hS1 (fun hHeld => ?_)
            clear hK K
            try simp only [Act.put, List.setIfInBounds_toArray, List.set_cons_zero, List.set_cons_succ]
            refine wpAnyH_take (i := 4) (oi := { dst := some 42, op := Op.unOp UnOp.not 4 (Operand.tmp 41), type := 4, pos := "layout.go:63", after := #[{ on := 3, ground := Ground.data }, { on := 1, ground := Ground.guard }], guard := some (1, true) }) (v := .bool false) rfl (by kernel_rfl) (by kernel_rfl) (by kernel_rfl) (fun _ _ _ h => h) (Or.inl ⟨by rfl, by (intro w hSw; (try dsimp only at hSw); go_simp)⟩) (by assumption) ?_
            try simp only [Act.put, List.setIfInBounds_toArray, List.set_cons_zero, List.set_cons_succ]
            refine wpAnyH_take (i := 5) (oi := { dst := some 43, op := Op.pick (Operand.tmp 39) (Operand.tmp 42) (Operand.const (Value.bool false)), type := 4, pos := "layout.go:63", after := #[{ on := 1, ground := Ground.data }, { on := 4, ground := Ground.data }], guard := none }) (v := .bool false) rfl (by kernel_rfl) (by kernel_rfl) (by kernel_rfl) (fun _ _ _ h => h) (Or.inl ⟨by rfl, by (intro w hSw; (try dsimp only at hSw); go_simp)⟩) (by assumption) ?_
            try simp only [Act.put, List.setIfInBounds_toArray, List.set_cons_zero, List.set_cons_succ]
            refine wpAnyH_take (i := 6) (oi := { dst := some 44, op := Op.move (Operand.tmp 43), type := 4, pos := "layout.go:63", after := #[{ on := 5, ground := Ground.data }, { on := 3, ground := Ground.chain }], guard := none }) (v := .bool false) rfl (by kernel_rfl) (by kernel_rfl) (by kernel_rfl) (fun _ _ _ h => h) (Or.inl ⟨by rfl, by (intro w hSw; (try dsimp only at hSw); go_simp)⟩) (by assumption) ?_
            try simp only [Act.put, List.setIfInBounds_toArray, List.set_cons_zero, List.set_cons_succ]
            refine wpAnyH_take (i := 7) (oi := { dst := some 45, op := Op.fieldAddr 37 (Operand.tmp 4) 3, type := 0, pos := "layout.go:63", after := #[{ on := 6, ground := Ground.guard }], guard := some (6, true) }) (v := undef) rfl (by kernel_rfl) (by kernel_rfl) (by kernel_rfl) (fun _ _ _ h => h) (Or.inr ⟨by rfl, rfl⟩) (by assumption) ?_
            try simp only [Act.put, List.setIfInBounds_toArray, List.set_cons_zero, List.set_cons_succ]
            refine wpAnyH_take (i := 8) (oi := { dst := some 46, op := Op.fieldAddr 25 (Operand.tmp 45) 1, type := 0, pos := "layout.go:63", after := #[{ on := 7, ground := Ground.data }, { on := 6, ground := Ground.guard }], guard := some (6, true) }) (v := undef) rfl (by kernel_rfl) (by kernel_rfl) (by kernel_rfl) (fun _ _ _ h => h) (Or.inr ⟨by rfl, rfl⟩) (by assumption) ?_
            try simp only [Act.put, List.setIfInBounds_toArray, List.set_cons_zero, List.set_cons_succ]
            refine wpAnyH_take (i := 9) (oi := { dst := some 47, op := Op.load 3 (Operand.tmp 46), type := 3, pos := "layout.go:63", after := #[{ on := 8, ground := Ground.data }, { on := 6, ground := Ground.guard }], guard := some (6, true) }) (v := undef) rfl (by kernel_rfl) (by kernel_rfl) (by kernel_rfl) (fun _ _ _ h => h) (Or.inr ⟨by rfl, rfl⟩) (by assumption) ?_
            try simp only [Act.put, List.setIfInBounds_toArray, List.set_cons_zero, List.set_cons_succ]
            refine wpAnyH_take (i := 10) (oi := { dst := some 48, op := Op.move (Operand.tmp 0), type := 73, pos := "layout.go:63", after := #[{ on := 6, ground := Ground.guard }], guard := some (6, true) }) (v := undef) rfl (by kernel_rfl) (by kernel_rfl) (by kernel_rfl) (fun _ _ _ h => h) (Or.inr ⟨by rfl, rfl⟩) (by assumption) ?_
            try simp only [Act.put, List.setIfInBounds_toArray, List.set_cons_zero, List.set_cons_succ]
            refine wpAnyH_take (i := 11) (oi := { dst := some 49, op := Op.call { callee := Callee.value (Operand.func 65), args := #[Operand.tmp 48], argTypes := #[73] }, type := 3, pos := "layout.go:63", after := #[{ on := 10, ground := Ground.data }, { on := 6, ground := Ground.chain }, { on := 6, ground := Ground.guard }], guard := some (6, true) }) (v := undef) rfl (by kernel_rfl) (by kernel_rfl) (by kernel_rfl) (fun _ _ _ h => h) (Or.inr ⟨by rfl, rfl⟩) (by assumption) ?_
            try simp only [Act.put, List.setIfInBounds_toArray, List.set_cons_zero, List.set_cons_succ]
            refine wpAnyH_take (i := 12) (oi := { dst := some 50, op := Op.binOp BinOp.eql 3 (Operand.tmp 47) (Operand.tmp 49) 3, type := 4, pos := "layout.go:63", after := #[{ on := 9, ground := Ground.data }, { on := 11, ground := Ground.data }, { on := 6, ground := Ground.guard }], guard := some (6, true) }) (v := undef) rfl (by kernel_rfl) (by kernel_rfl) (by kernel_rfl) (fun _ _ _ h => h) (Or.inr ⟨by rfl, rfl⟩) (by assumption) ?_
            try simp only [Act.put, List.setIfInBounds_toArray, List.set_cons_zero, List.set_cons_succ]
            refine wpAnyH_take (i := 13) (oi := { dst := some 51, op := Op.pick (Operand.tmp 44) (Operand.tmp 50) (Operand.const (Value.bool false)), type := 4, pos := "layout.go:63", after := #[{ on := 6, ground := Ground.data }, { on := 12, ground := Ground.data }], guard := none }) (v := .bool false) rfl (by kernel_rfl) (by kernel_rfl) (by kernel_rfl) (fun _ _ _ h => h) (Or.inl ⟨by rfl, by (intro w hSw; (try dsimp only at hSw); go_simp)⟩) (by assumption) ?_
            try simp only [Act.put, List.setIfInBounds_toArray, List.set_cons_zero, List.set_cons_succ]
            refine wpAnyH_take (i := 14) (oi := { dst := some 52, op := Op.move (Operand.tmp 51), type := 4, pos := "layout.go:63", after := #[{ on := 13, ground := Ground.data }, { on := 11, ground := Ground.chain }], guard := none }) (v := .bool false) rfl (by kernel_rfl) (by kernel_rfl) (by kernel_rfl) (fun _ _ _ h => h) (Or.inl ⟨by rfl, by (intro w hSw; (try dsimp only at hSw); go_simp)⟩) (by assumption) ?_
            try simp only [Act.put, List.setIfInBounds_toArray, List.set_cons_zero, List.set_cons_succ]
            refine wpAnyH_take (i := 15) (oi := { dst := some 53, op := Op.move (Operand.tmp 0), type := 73, pos := "layout.go:63", after := #[{ on := 14, ground := Ground.guard }], guard := some (14, true) }) (v := undef) rfl (by kernel_rfl) (by kernel_rfl) (by kernel_rfl) (fun _ _ _ h => h) (Or.inr ⟨by rfl, rfl⟩) (by assumption) ?_
            try simp only [Act.put, List.setIfInBounds_toArray, List.set_cons_zero, List.set_cons_succ]
            refine wpAnyH_take (i := 16) (oi := { dst := some 54, op := Op.nilCheck (Operand.tmp 53), type := 0, pos := "layout.go:63", after := #[{ on := 15, ground := Ground.data }, { on := 14, ground := Ground.guard }], guard := some (14, true) }) (v := undef) rfl (by kernel_rfl) (by kernel_rfl) (by kernel_rfl) (fun _ _ _ h => h) (Or.inr ⟨by rfl, rfl⟩) (by assumption) ?_
            try simp only [Act.put, List.setIfInBounds_toArray, List.set_cons_zero, List.set_cons_succ]
            refine wpAnyH_take (i := 17) (oi := { dst := some 55, op := Op.fieldAddr 75 (Operand.tmp 54) 0, type := 0, pos := "layout.go:63", after := #[{ on := 16, ground := Ground.data }, { on := 14, ground := Ground.guard }], guard := some (14, true) }) (v := undef) rfl (by kernel_rfl) (by kernel_rfl) (by kernel_rfl) (fun _ _ _ h => h) (Or.inr ⟨by rfl, rfl⟩) (by assumption) ?_
            try simp only [Act.put, List.setIfInBounds_toArray, List.set_cons_zero, List.set_cons_succ]
            refine wpAnyH_take (i := 18) (oi := { dst := some 56, op := Op.load 23 (Operand.tmp 55), type := 23, pos := "layout.go:63", after := #[{ on := 17, ground := Ground.data }, { on := 14, ground := Ground.guard }], guard := some (14, true) }) (v := undef) rfl (by kernel_rfl) (by kernel_rfl) (by kernel_rfl) (fun _ _ _ h => h) (Or.inr ⟨by rfl, rfl⟩) (by assumption) ?_
            try simp only [Act.put, List.setIfInBounds_toArray, List.set_cons_zero, List.set_cons_succ]
            refine wpAnyH_take (i := 19) (oi := { dst := some 57, op := Op.call { callee := Callee.builtin Builtin.len, args := #[Operand.tmp 56], argTypes := #[23] }, type := 3, pos := "layout.go:63", after := #[{ on := 18, ground := Ground.data }, { on := 14, ground := Ground.guard }], guard := some (14, true) }) (v := undef) rfl (by kernel_rfl) (by kernel_rfl) (by kernel_rfl) (fun _ _ _ h => h) (Or.inr ⟨by rfl, rfl⟩) (by assumption) ?_
            try simp only [Act.put, List.setIfInBounds_toArray, List.set_cons_zero, List.set_cons_succ]
            refine wpAnyH_take (i := 20) (oi := { dst := some 58, op := Op.binOp BinOp.gtr 3 (Operand.tmp 57) (Operand.const (Value.int IntKind.i64 1)) 3, type := 4, pos := "layout.go:63", after := #[{ on := 19, ground := Ground.data }, { on := 14, ground := Ground.guard }], guard := some (14, true) }) (v := undef) rfl (by kernel_rfl) (by kernel_rfl) (by kernel_rfl) (fun _ _ _ h => h) (Or.inr ⟨by rfl, rfl⟩) (by assumption) ?_
            try simp only [Act.put, List.setIfInBounds_toArray, List.set_cons_zero, List.set_cons_succ]
            refine wpAnyH_take (i := 21) (oi := { dst := some 59, op := Op.pick (Operand.tmp 52) (Operand.tmp 58) (Operand.const (Value.bool false)), type := 4, pos := "layout.go:63", after := #[{ on := 14, ground := Ground.data }, { on := 20, ground := Ground.data }], guard := none }) (v := .bool false) rfl (by kernel_rfl) (by kernel_rfl) (by kernel_rfl) (fun _ _ _ h => h) (Or.inl ⟨by rfl, by (intro w hSw; (try dsimp only at hSw); go_simp)⟩) (by assumption) ?_
            try simp only [Act.put, List.setIfInBounds_toArray, List.set_cons_zero, List.set_cons_succ]
            refine wpAnyH_done (by kernel_rfl) ?_ _
            refine NoPanic.normal ?_
            all_goals
              have HB4 := Lib.hid hS1.st
              have HK4 := Lib.hid hS1.kp
              clear hS0 hS1 z0 y0 y1 y2 HCH
              go_wp2
              go_end0
              rw [hQ.out]
              exact ⟨rfl, HB4.out.mono (fun k hk => .inl hk), HKB.out _ HK4.out⟩
          · have hQ : Hid (Q = (out, x :: r)) := hP.out.trans (if_neg h1)
            obtain ⟨A0, c0, hS0⟩ := held_make (w0 := w0) HB2.out HK2.out (.inr rfl) y0 y1 y2 y3 y4
            simp only at hS0
            have z0 := hS0.2.2.2.2.2.1
            have key : cb = true ∨ (cb = false ∧ ¬ 1 < r.length + 1) := by
              rw [← HCB.out, List.length_cons]
              by_cases q : r.length + 1 = s.cols.length
              · right; exact ⟨by simp [q], by omega⟩
              · left; exact decide_eq_true q
            clear hP h1 HTH
            rcases key with rfl | ⟨rfl, hk1⟩
            all_goals
              go_wp2_with fail
              refine wp_region_noPanic ?_
              refine wp_region_held_drew (S := (fun W => W.cell? ⟨w.heap.size, 0, none⟩ = some (.int .i64 t.kind) ∧ W.cell? ⟨w.heap.size, 1, none⟩ = some (.int .i64 t.num) ∧ W.cell? ⟨w.heap.size, 2, none⟩ = some (.string (S t.str)) ∧ W.cell? ⟨w.heap.size, 3, none⟩ = some (.int .i64 a) ∧ W.cell? ⟨w.heap.size, 4, none⟩ = some (.int .i64 b) ∧ W.cell? ⟨g, 0, none⟩ = some (.slice A0 out.length c0) ∧ Hid (HeldP w0 (orOne Pr w.heap.size) w.heap.size g { s with out := out, cols := x :: r } W))) (by kernel_rfl) hS0.drew (fun hHeld => ?_)
              refine wpAnyH_take (i := 0) (oi := { dst := some 38, op := Op.move (Operand.tmp 2), type := 4, pos := "layout.go:63", after := #[], guard := none }) (v := .bool true) rfl (by kernel_rfl) (by kernel_rfl) (by kernel_rfl) (fun _ _ _ h => h) (Or.inl ⟨by rfl, by (intro w hSw; (try dsimp only at hSw); go_simp)⟩) (by assumption) ?_
              try simp only [Act.put, List.setIfInBounds_toArray, List.set_cons_zero, List.set_cons_succ]
              refine wpAnyH_take (i := 1) (oi := { dst := some 39, op := Op.move (Operand.tmp 38), type := 4, pos := "layout.go:63", after := #[{ on := 0, ground := Ground.data }], guard := none }) (v := .bool true) rfl (by kernel_rfl) (by kernel_rfl) (by kernel_rfl) (fun _ _ _ h => h) (Or.inl ⟨by rfl, by (intro w hSw; (try dsimp only at hSw); go_simp)⟩) (by assumption) ?_
              try simp only [Act.put, List.setIfInBounds_toArray, List.set_cons_zero, List.set_cons_succ]
              refine wpAnyH_take (i := 2) (oi := { dst := some 40, op := Op.load 37 (Operand.tmp 4), type := 37, pos := "layout.go:63", after := #[{ on := 1, ground := Ground.guard }], guard := some (1, true) }) (v := tkV t a b) rfl (by kernel_rfl) (by kernel_rfl) (by kernel_rfl) (fun _ _ _ h => h) (Or.inl ⟨by rfl, by (intro w hSw; (try dsimp only at hSw); go_simp)⟩) (by assumption) ?_
              try simp only [Act.put, List.setIfInBounds_toArray, List.set_cons_zero, List.set_cons_succ]
              refine wpAnyH_ready (rs := [3]) (by kernel_rfl) (by simp) ?_
              refine AllReadyH.cons (o := { dst := some 41, op := Op.call { callee := Callee.value (Operand.func 64), args := #[Operand.tmp 40], argTypes := #[37] }, type := 4, pos := "layout.go:63", after := #[{ on := 2, ground := Ground.data }, { on := 1, ground := Ground.chain }, { on := 1, ground := Ground.guard }], guard := some (1, true) }) rfl (fun K hK => ?_) AllReadyH.nil
              go_simp
              (go_at_call 64; refine (HCH.out _ _ _ _ _ _ hS0.drew).mono ?_; rintro e w3 ⟨rfl, hS1⟩)
              dsimp only
              refine hK.out _ _ hS1 (fun hHeld => ?_)
              clear hK K
              try simp only [Act.put, List.setIfInBounds_toArray, List.set_cons_zero, List.set_cons_succ]
              refine wpAnyH_take (i := 4) (oi := { dst := some 42, op := Op.unOp UnOp.not 4 (Operand.tmp 41), type := 4, pos := "layout.go:63", after := #[{ on := 3, ground := Ground.data }, { on := 1, ground := Ground.guard }], guard := some (1, true) }) (v := .bool false) rfl (by kernel_rfl) (by kernel_rfl) (by kernel_rfl) (fun _ _ _ h => h) (Or.inl ⟨by rfl, by (intro w hSw; (try dsimp only at hSw); go_simp)⟩) (by assumption) ?_
              try simp only [Act.put, List.setIfInBounds_toArray, List.set_cons_zero, List.set_cons_succ]
              refine wpAnyH_take (i := 5) (oi := { dst := some 43, op := Op.pick (Operand.tmp 39) (Operand.tmp 42) (Operand.const (Value.bool false)), type := 4, pos := "layout.go:63", after := #[{ on := 1, ground := Ground.data }, { on := 4, ground := Ground.data }], guard := none }) (v := .bool false) rfl (by kernel_rfl) (by kernel_rfl) (by kernel_rfl) (fun _ _ _ h => h) (Or.inl ⟨by rfl, by (intro w hSw; (try dsimp only at hSw); go_simp)⟩) (by assumption) ?_
              try simp only [Act.put, List.setIfInBounds_toArray, List.set_cons_zero, List.set_cons_succ]
              refine wpAnyH_take (i := 6) (oi := { dst := some 44, op := Op.move (Operand.tmp 43), type := 4, pos := "layout.go:63", after := #[{ on := 5, ground := Ground.data }, { on := 3, ground := Ground.chain }], guard := none }) (v := .bool false) rfl (by kernel_rfl) (by kernel_rfl) (by kernel_rfl) (fun _ _ _ h => h) (Or.inl ⟨by rfl, by (intro w hSw; (try dsimp only at hSw); go_simp)⟩) (by assumption) ?_
              try simp only [Act.put, List.setIfInBounds_toArray, List.set_cons_zero, List.set_cons_succ]
              refine wpAnyH_take (i := 7) (oi := { dst := some 45, op := Op.fieldAddr 37 (Operand.tmp 4) 3, type := 0, pos := "layout.go:63", after := #[{ on := 6, ground := Ground.guard }], guard := some (6, true) }) (v := undef) rfl (by kernel_rfl) (by kernel_rfl) (by kernel_rfl) (fun _ _ _ h => h) (Or.inr ⟨by rfl, rfl⟩) (by assumption) ?_
              try simp only [Act.put, List.setIfInBounds_toArray, List.set_cons_zero, List.set_cons_succ]
              refine wpAnyH_take (i := 8) (oi := { dst := some 46, op := Op.fieldAddr 25 (Operand.tmp 45) 1, type := 0, pos := "layout.go:63", after := #[{ on := 7, ground := Ground.data }, { on := 6, ground := Ground.guard }], guard := some (6, true) }) (v := undef) rfl (by kernel_rfl) (by kernel_rfl) (by kernel_rfl) (fun _ _ _ h => h) (Or.inr ⟨by rfl, rfl⟩) (by assumption) ?_
              try simp only [Act.put, List.setIfInBounds_toArray, List.set_cons_zero, List.set_cons_succ]
              refine wpAnyH_take (i := 9) (oi := { dst := some 47, op := Op.load 3 (Operand.tmp 46), type := 3, pos := "layout.go:63", after := #[{ on := 8, ground := Ground.data }, { on := 6, ground := Ground.guard }], guard := some (6, true) }) (v := undef) rfl (by kernel_rfl) (by kernel_rfl) (by kernel_rfl) (fun _ _ _ h => h) (Or.inr ⟨by rfl, rfl⟩) (by assumption) ?_
              try simp only [Act.put, List.setIfInBounds_toArray, List.set_cons_zero, List.set_cons_succ]
              refine wpAnyH_take (i := 10) (oi := { dst := some 48, op := Op.move (Operand.tmp 0), type := 73, pos := "layout.go:63", after := #[{ on := 6, ground := Ground.guard }], guard := some (6, true) }) (v := undef) rfl (by kernel_rfl) (by kernel_rfl) (by kernel_rfl) (fun _ _ _ h => h) (Or.inr ⟨by rfl, rfl⟩) (by assumption) ?_
              try simp only [Act.put, List.setIfInBounds_toArray, List.set_cons_zero, List.set_cons_succ]
              refine wpAnyH_take (i := 11) (oi := { dst := some 49, op := Op.call { callee := Callee.value (Operand.func 65), args := #[Operand.tmp 48], argTypes := #[73] }, type := 3, pos := "layout.go:63", after := #[{ on := 10, ground := Ground.data }, { on := 6, ground := Ground.chain }, { on := 6, ground := Ground.guard }], guard := some (6, true) }) (v := undef) rfl (by kernel_rfl) (by kernel_rfl) (by kernel_rfl) (fun _ _ _ h => h) (Or.inr ⟨by rfl, rfl⟩) (by assumption) ?_
              try simp only [Act.put, List.setIfInBounds_toArray, List.set_cons_zero, List.set_cons_succ]
              refine wpAnyH_take (i := 12) (oi := { dst := some 50, op := Op.binOp BinOp.eql 3 (Operand.tmp 47) (Operand.tmp 49) 3, type := 4, pos := "layout.go:63", after := #[{ on := 9, ground := Ground.data }, { on := 11, ground := Ground.data }, { on := 6, ground := Ground.guard }], guard := some (6, true) }) (v := undef) rfl (by kernel_rfl) (by kernel_rfl) (by kernel_rfl) (fun _ _ _ h => h) (Or.inr ⟨by rfl, rfl⟩) (by assumption) ?_
              try simp only [Act.put, List.setIfInBounds_toArray, List.set_cons_zero, List.set_cons_succ]
              refine wpAnyH_take (i := 13) (oi := { dst := some 51, op := Op.pick (Operand.tmp 44) (Operand.tmp 50) (Operand.const (Value.bool false)), type := 4, pos := "layout.go:63", after := #[{ on := 6, ground := Ground.data }, { on := 12, ground := Ground.data }], guard := none }) (v := .bool false) rfl (by kernel_rfl) (by kernel_rfl) (by kernel_rfl) (fun _ _ _ h => h) (Or.inl ⟨by rfl, by (intro w hSw; (try dsimp only at hSw); go_simp)⟩) (by assumption) ?_
              try simp only [Act.put, List.setIfInBounds_toArray, List.set_cons_zero, List.set_cons_succ]
              refine wpAnyH_take (i := 14) (oi := { dst := some 52, op := Op.move (Operand.tmp 51), type := 4, pos := "layout.go:63", after := #[{ on := 13, ground := Ground.data }, { on := 11, ground := Ground.chain }], guard := none }) (v := .bool false) rfl (by kernel_rfl) (by kernel_rfl) (by kernel_rfl) (fun _ _ _ h => h) (Or.inl ⟨by rfl, by (intro w hSw; (try dsimp only at hSw); go_simp)⟩) (by assumption) ?_
              try simp only [Act.put, List.setIfInBounds_toArray, List.set_cons_zero, List.set_cons_succ]
              refine wpAnyH_take (i := 15) (oi := { dst := some 53, op := Op.move (Operand.tmp 0), type := 73, pos := "layout.go:63", after := #[{ on := 14, ground := Ground.guard }], guard := some (14, true) }) (v := undef) rfl (by kernel_rfl) (by kernel_rfl) (by kernel_rfl) (fun _ _ _ h => h) (Or.inr ⟨by rfl, rfl⟩) (by assumption) ?_
              try simp only [Act.put, List.setIfInBounds_toArray, List.set_cons_zero, List.set_cons_succ]
              refine wpAnyH_take (i := 16) (oi := { dst := some 54, op := Op.nilCheck (Operand.tmp 53), type := 0, pos := "layout.go:63", after := #[{ on := 15, ground := Ground.data }, { on := 14, ground := Ground.guard }], guard := some (14, true) }) (v := undef) rfl (by kernel_rfl) (by kernel_rfl) (by kernel_rfl) (fun _ _ _ h => h) (Or.inr ⟨by rfl, rfl⟩) (by assumption) ?_
              try simp only [Act.put, List.setIfInBounds_toArray, List.set_cons_zero, List.set_cons_succ]
              refine wpAnyH_take (i := 17) (oi := { dst := some 55, op := Op.fieldAddr 75 (Operand.tmp 54) 0, type := 0, pos := "layout.go:63", after := #[{ on := 16, ground := Ground.data }, { on := 14, ground := Ground.guard }], guard := some (14, true) }) (v := undef) rfl (by kernel_rfl) (by kernel_rfl) (by kernel_rfl) (fun _ _ _ h => h) (Or.inr ⟨by rfl, rfl⟩) (by assumption) ?_
              try simp only [Act.put, List.setIfInBounds_toArray, List.set_cons_zero, List.set_cons_succ]
              refine wpAnyH_take (i := 18) (oi := { dst := some 56, op := Op.load 23 (Operand.tmp 55), type := 23, pos := "layout.go:63", after := #[{ on := 17, ground := Ground.data }, { on := 14, ground := Ground.guard }], guard := some (14, true) }) (v := undef) rfl (by kernel_rfl) (by kernel_rfl) (by kernel_rfl) (fun _ _ _ h => h) (Or.inr ⟨by rfl, rfl⟩) (by assumption) ?_
              try simp only [Act.put, List.setIfInBounds_toArray, List.set_cons_zero, List.set_cons_succ]
              refine wpAnyH_take (i := 19) (oi := { dst := some 57, op := Op.call { callee := Callee.builtin Builtin.len, args := #[Operand.tmp 56], argTypes := #[23] }, type := 3, pos := "layout.go:63", after := #[{ on := 18, ground := Ground.data }, { on := 14, ground := Ground.guard }], guard := some (14, true) }) (v := undef) rfl (by kernel_rfl) (by kernel_rfl) (by kernel_rfl) (fun _ _ _ h => h) (Or.inr ⟨by rfl, rfl⟩) (by assumption) ?_
              try simp only [Act.put, List.setIfInBounds_toArray, List.set_cons_zero, List.set_cons_succ]
              refine wpAnyH_take (i := 20) (oi := { dst := some 58, op := Op.binOp BinOp.gtr 3 (Operand.tmp 57) (Operand.const (Value.int IntKind.i64 1)) 3, type := 4, pos := "layout.go:63", after := #[{ on := 19, ground := Ground.data }, { on := 14, ground := Ground.guard }], guard := some (14, true) }) (v := undef) rfl (by kernel_rfl) (by kernel_rfl) (by kernel_rfl) (fun _ _ _ h => h) (Or.inr ⟨by rfl, rfl⟩) (by assumption) ?_
              try simp only [Act.put, List.setIfInBounds_toArray, List.set_cons_zero, List.set_cons_succ]
              refine wpAnyH_take (i := 21) (oi := { dst := some 59, op := Op.pick (Operand.tmp 52) (Operand.tmp 58) (Operand.const (Value.bool false)), type := 4, pos := "layout.go:63", after := #[{ on := 14, ground := Ground.data }, { on := 20, ground := Ground.data }], guard := none }) (v := .bool false) rfl (by kernel_rfl) (by kernel_rfl) (by kernel_rfl) (fun _ _ _ h => h) (Or.inl ⟨by rfl, by (intro w hSw; (try dsimp only at hSw); go_simp)⟩) (by assumption) ?_
              try simp only [Act.put, List.setIfInBounds_toArray, List.set_cons_zero, List.set_cons_succ]
              refine wpAnyH_done (by kernel_rfl) ?_ _
              refine NoPanic.normal ?_
              all_goals
                have HB4 := Lib.hid hS1.st
                have HK4 := Lib.hid hS1.kp
                clear hS0 hS1 z0 y0 y1 y2 HCH
                go_wp2
                go_end0
                rw [hQ.out]
                exact ⟨rfl, HB4.out.mono (fun k hk => .inl hk), HKB.out _ HK4.out⟩

end Go.Proofs.YtkjjagmpnnnimaaGreatDoor
