/- The program's proceed: what a token closes and separates that begins no block. Condition: fewer than a thousand million tokens and blocks. -/
import Derived.Test.YtebfnlahiodefaaDoorLayW3
namespace Go.Proofs.YtebfnlahiodefaaDoor
open Go.RowKit M

/-- how many columns the builder holds -/
def colN (w : World) (g : Nat) : Nat := match w.cell? ⟨g, 1, none⟩ with
  | some (.slice _ n _) => n
  | _ => 0
theorem colN_is {w : World} {Pr : Nat → Prop} {g : Nat} {s : LSt} (h : BSt w Pr g s) : colN w g = s.cols.length := by
  obtain ⟨vt, vc, h⟩ := h
  obtain ⟨A, c, rfl⟩ := owns_form h.rc
  have : w.cell? ⟨g, 1, none⟩ = some (.slice A s.cols.length c) := h.blk.cell 1
  unfold colN; rw [this]
/-- what holds at each round's head of the loop that closes blocks -/
def PRel (W : World) (Pr : Nat → Prop) (g : Nat) (s : LSt) (a b : Int) (R : List Tok × List Int) (wr : World) : Prop :=
  ∃ out cols, popC b (a, b) out cols = R ∧ cols.getLast? = some 1 ∧ out.length + cols.length = s.out.length + s.cols.length ∧ cols.length ≤ s.cols.length ∧
    BSt wr Pr g { s with out := out, cols := cols } ∧ Keep Pr W wr
theorem popC_cons (c : Int) (p : Int × Int) (out : List Tok) (x : Int) (r : List Int) : popC c p out (x :: r) = if c < x then popC c p (out ++ [mkT 7 p]) r else (out, x :: r) := rfl

set_option maxRecDepth 100000 in
set_option maxHeartbeats 3200000 in
theorem proceed_line (w : World) (Pr : Nat → Prop) (g : Nat) (s : LSt) (t : TR) (a b : Int) (h : BSt w Pr g s) (hl : s.cols.getLast? = some 1) (hb : 1 ≤ b) (hn : s.out.length + s.cols.length ≤ 999999998) :
    Calls Tryd.prog 91 #[.pointer (some ⟨g, 0, none⟩), tkV t a b, .bool true] w
      (BPost w Pr g { s with out := (procL s.out s.cols (t, (a, b)) true).1, cols := (procL s.out s.cols (t, (a, b)) true).2 }) := by
  have HB0 := Lib.hid (h.more (.cells #[.int .i64 t.kind, .int .i64 t.num, .string (S t.str), .int .i64 a, .int .i64 b] 25))
  have HL := Lib.hid h.lt
  have HCL := Lib.hid (fun W => closer_any W t a b)
  have hN : Hid (colN (w.alloc (.cells #[.int .i64 t.kind, .int .i64 t.num, .string (S t.str), .int .i64 a, .int .i64 b] 25)) g = s.cols.length) := colN_is HB0.out
  have hP : Hid (procL s.out s.cols (t, (a, b)) true = if closB t = true then (if (popC b (a, b) s.out s.cols).2.length = s.cols.length ∧ 1 < s.cols.length then ((popC b (a, b) s.out s.cols).1 ++ [mkT 7 (a, b)], (popC b (a, b) s.out s.cols).2.tail) else popC b (a, b) s.out s.cols)
      else if b = (popC b (a, b) s.out s.cols).2.headD 0 then ((popC b (a, b) s.out s.cols).1 ++ [mkT 6 (a, b)], (popC b (a, b) s.out s.cols).2) else popC b (a, b) s.out s.cols) := by
    unfold Hid procL procE popS; simp
  have hpop := popC_ne b (a, b) hb s.cols s.out hl
  have HPOP := Lib.hid hpop
  obtain ⟨vt, vc, hBA⟩ := HB0.out
  obtain ⟨A0, c0, rfl⟩ := owns_form hBA.rc
  have k0 : (w.alloc (.cells #[.int .i64 t.kind, .int .i64 t.num, .string (S t.str), .int .i64 a, .int .i64 b] 25)).cell? ⟨g, 1, none⟩ = some (.slice A0 s.cols.length c0) := hBA.blk.cell 1
  have HLA := Lib.hid hl
  generalize procL s.out s.cols (t, (a, b)) true = Q at *
  generalize closB t = cl at *
  obtain ⟨R, hR⟩ : ∃ R, popC b (a, b) s.out s.cols = R := ⟨_, rfl⟩
  rw [hR] at hP HPOP
  have HR := Lib.hid hR
  clear h hl hpop hBA hR
  go_enter Tryd.func91, Tryd.ntmps91
  go_wp2_with fail
  clear k0
  go_loopw [] (fun wr => PRel (w.alloc (.cells #[.int .i64 t.kind, .int .i64 t.num, .string (S t.str), .int .i64 a, .int .i64 b] 25)) (orOne Pr w.heap.size) g s a b R wr) (fun wr => colN wr g)
  case atStart => exact ⟨s.out, s.cols, HR.out, HLA.out, rfl, Nat.le_refl _, HB0.out, Keep.refl _ _⟩
  case round =>
    obtain ⟨out, cols, hR, hla, hlen, hle, hB, hK⟩ := hrel
    cases cols with
    | nil => simp at hla
    | cons x r =>
      have k3 : wr.cell? ⟨w.heap.size, 3, none⟩ = some (.int .i64 a) := box_cell hK 3
      have k4 : wr.cell? ⟨w.heap.size, 4, none⟩ = some (.int .i64 b) := box_cell hK 4
      rw [List.length_cons] at hlen hle
      have HCO := Lib.hid (fun n => column_any (wr.drewN n) (orOne Pr w.heap.size) g _ x r (hB.drewN n) rfl (by omega))
      have HCN := Lib.hid (colN_is hB)
      have HB := Lib.hid hB
      have HK := Lib.hid hK
      clear hB hK
      rw [popC_cons] at hR
      by_cases hlt : b < x
      · rw [if_pos hlt] at hR
        have hla2 : r.getLast? = some 1 := by
          cases r with
          | nil => simp at hla; omega
          | cons y q => simpa using hla
        have HLA2 := Lib.hid hla2
        have HR2 := Lib.hid hR
        clear hla hla2 hR
        go_wp2_with fail
        go_quiet ((go_at_call 110; exact Calls.quiet_of (HCO.out _)))
        go_wp2_with fail
        refine (close_any _ _ g _ a b x r (HB.out.drewN _) rfl (by simp; omega) (by omega)).mono ?_
        rintro e w2 ⟨rfl, hB2, hK2⟩
        have HB2 := Lib.hid hB2
        have HK2 := Lib.hid ((HK.out.drewN _).trans hK2)
        have HN2 := Lib.hid (colN_is hB2)
        clear hB2 hK2
        go_wp2
        go_roundw
        case rel => exact ⟨out ++ [mkT 7 (a, b)], r, HR2.out, HLA2.out, by simp; omega, by omega, HB2.out, HK2.out⟩
        case measure => rw [HN2.out, HCN.out]; simp
      · rw [if_neg hlt] at hR
        subst hR
        obtain ⟨vt, vc, hBA⟩ := HB.out
        obtain ⟨gc, cap, rfl, _, _, _⟩ := hBA.cform rfl
        have k5 : wr.cell? ⟨g, 1, none⟩ = some (.slice (some ⟨gc, 0, none⟩) (r.length + 1 : Nat) cap) := hBA.blk.cell 1
        clear hBA hla
        have hk0 : wr.cell? ⟨w.heap.size, 0, none⟩ = some (.int .i64 t.kind) := box_cell HK.out 0
        have hk1 : wr.cell? ⟨w.heap.size, 1, none⟩ = some (.int .i64 t.num) := box_cell HK.out 1
        have hk2 : wr.cell? ⟨w.heap.size, 2, none⟩ = some (.string (S t.str)) := box_cell HK.out 2
        cases cl
        · rw [if_neg (by decide)] at hP
          by_cases hbx : b = x
          · have hQ : Hid (Q = (out ++ [mkT 6 (a, b)], x :: r)) := hP.out.trans (if_pos hbx)
            subst hbx
            clear hP HPOP
            go_wp2_with fail
            go_quiet ((go_at_call 110; exact Calls.quiet_of (HCO.out _)))
            go_wp2_with fail
            refine (HCL.out _).mono ?_
            rintro e w2 ⟨rfl, hb2⟩
            have HB2 := Lib.hid ((HB.out.drewN _).below hb2)
            have HK2 := Lib.hid ((HK.out.drewN _).trans (Keep.below hb2 (HB.out.drewN _).lt))
            have k3 : w2.cell? ⟨w.heap.size, 3, none⟩ = some (.int .i64 a) := box_cell HK2.out 3
            have k4 : w2.cell? ⟨w.heap.size, 4, none⟩ = some (.int .i64 b) := box_cell HK2.out 4
            have HCO2 := Lib.hid (fun n => column_any (w2.drewN n) (orOne Pr w.heap.size) g _ b r (HB2.out.drewN n) rfl (by omega))
            clear hb2
            go_wp2_with fail
            go_quiet ((go_at_call 110; exact Calls.quiet_of (HCO2.out _)))
            go_wp2_with fail
            refine (insert_any _ _ g _ 6 a b (HB2.out.drewN _) (by simp; omega)).mono ?_
            rintro e w3 ⟨rfl, hB3, hK3⟩
            have HB3 := Lib.hid hB3
            have HK3 := Lib.hid ((HK2.out.drewN _).trans hK3)
            clear hB3 hK3
            go_wp2
            go_end0
            rw [hQ.out]
            exact ⟨rfl, HB3.out.mono (fun k hk => .inl hk), keep_box HL.out HK3.out⟩
          · have hQ : Hid (Q = (out, x :: r)) := hP.out.trans (if_neg hbx)
            have g1 : (b == x) = false := beq_eq_false_iff_ne.2 hbx
            clear hP HPOP
            go_wp2_with fail
            go_quiet ((go_at_call 110; exact Calls.quiet_of (HCO.out _)))
            go_wp2_with fail
            refine (HCL.out _).mono ?_
            rintro e w2 ⟨rfl, hb2⟩
            have HB2 := Lib.hid ((HB.out.drewN _).below hb2)
            have HK2 := Lib.hid ((HK.out.drewN _).trans (Keep.below hb2 (HB.out.drewN _).lt))
            have k3 : w2.cell? ⟨w.heap.size, 3, none⟩ = some (.int .i64 a) := box_cell HK2.out 3
            have k4 : w2.cell? ⟨w.heap.size, 4, none⟩ = some (.int .i64 b) := box_cell HK2.out 4
            have HCO2 := Lib.hid (fun n => column_any (w2.drewN n) (orOne Pr w.heap.size) g _ x r (HB2.out.drewN n) rfl (by omega))
            clear hb2
            go_wp2_with fail
            go_quiet ((go_at_call 110; exact Calls.quiet_of (HCO2.out _)))
            go_wp2
            go_end0
            rw [hQ.out]
            exact ⟨rfl, (HB2.out.drewN _).mono (fun k hk => .inl hk), keep_box HL.out (HK2.out.drewN _)⟩
        · rw [if_pos rfl] at hP
          by_cases h1 : r.length + 1 = s.cols.length ∧ 1 < s.cols.length
          · have hQ : Hid (Q = (out ++ [mkT 7 (a, b)], r)) := hP.out.trans (if_pos h1)
            obtain ⟨h1a, h1b⟩ := h1
            have h1c := Lib.hid h1a
            have g1 : (((r.length + 1 : Nat) : Int) == (s.cols.length : Int)) = true := by rw [h1a]; simp
            have g2 : ((r.length : Int) + 1 == (s.cols.length : Int)) = true := beq_iff_eq.2 (by omega)
            clear hP HPOP h1a
            go_wp2_with fail
            go_quiet ((go_at_call 110; exact Calls.quiet_of (HCO.out _)))
            go_wp2_with fail
            refine (HCL.out _).mono ?_
            rintro e w2 ⟨rfl, hb2⟩
            have HB2 := Lib.hid ((HB.out.drewN _).below hb2)
            have HK2 := Lib.hid ((HK.out.drewN _).trans (Keep.below hb2 (HB.out.drewN _).lt))
            have k3 : w2.cell? ⟨w.heap.size, 3, none⟩ = some (.int .i64 a) := box_cell HK2.out 3
            have k4 : w2.cell? ⟨w.heap.size, 4, none⟩ = some (.int .i64 b) := box_cell HK2.out 4
            obtain ⟨vt2, vc2, hBA⟩ := HB2.out
            obtain ⟨gc2, cap2, rfl, _, _, _⟩ := hBA.cform rfl
            have k6 : w2.cell? ⟨g, 1, none⟩ = some (.slice (some ⟨gc2, 0, none⟩) (r.length + 1 : Nat) cap2) := hBA.blk.cell 1
            clear hb2 hBA
            go_wp2_with fail
            refine (close_any _ _ g _ a b x r HB2.out rfl (by simp; omega) (by omega)).mono ?_
            rintro e w3 ⟨rfl, hB3, hK3⟩
            have HB3 := Lib.hid hB3
            have HK3 := Lib.hid (HK2.out.trans hK3)
            clear hB3 hK3
            go_wp2
            go_end0
            rw [hQ.out]
            exact ⟨rfl, HB3.out.mono (fun k hk => .inl hk), keep_box HL.out HK3.out⟩
          · have hQ : Hid (Q = (out, x :: r)) := hP.out.trans (if_neg h1)
            have key : ((((r.length + 1 : Nat) : Int) == (s.cols.length : Int)) = false ∧ ((r.length : Int) + 1 == (s.cols.length : Int)) = false) ∨
                ((((r.length + 1 : Nat) : Int) == (s.cols.length : Int)) = true ∧ ((r.length : Int) + 1 == (s.cols.length : Int)) = true ∧ (s.cols.length : Int) ≤ 1) := by
              by_cases q : r.length + 1 = s.cols.length
              · right; exact ⟨by rw [q]; simp, beq_iff_eq.2 (by omega), by omega⟩
              · left; exact ⟨beq_eq_false_iff_ne.2 (by omega), beq_eq_false_iff_ne.2 (by omega)⟩
            clear hP HPOP h1
            rcases key with ⟨g1, g2⟩ | ⟨g1, g2, g3⟩
            all_goals
              go_wp2_with fail
              go_quiet ((go_at_call 110; exact Calls.quiet_of (HCO.out _)))
              go_wp2_with fail
              refine (HCL.out _).mono ?_
              rintro e w2 ⟨rfl, hb2⟩
              have HB2 := Lib.hid ((HB.out.drewN _).below hb2)
              have HK2 := Lib.hid ((HK.out.drewN _).trans (Keep.below hb2 (HB.out.drewN _).lt))
              obtain ⟨vt2, vc2, hBA⟩ := HB2.out
              obtain ⟨gc2, cap2, rfl, _, _, _⟩ := hBA.cform rfl
              have k6 : w2.cell? ⟨g, 1, none⟩ = some (.slice (some ⟨gc2, 0, none⟩) (r.length + 1 : Nat) cap2) := hBA.blk.cell 1
              clear hb2 hBA
              go_wp2
              go_end0
              rw [hQ.out]
              exact ⟨rfl, HB2.out.mono (fun k hk => .inl hk), keep_box HL.out HK2.out⟩

end Go.Proofs.YtebfnlahiodefaaDoor
