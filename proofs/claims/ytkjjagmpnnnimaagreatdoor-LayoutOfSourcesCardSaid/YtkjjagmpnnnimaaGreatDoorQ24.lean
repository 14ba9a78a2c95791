/- The reference's plain at the first token of all: nothing is closed or separated. No conditions but the first token's column. What a token does to the state, told for the reference's Insert: the calls of plain and begin. The program's proceed within a line, answer, await and unanswered. Condition: fewer than a thousand million tokens and blocks. -/
import Derived.Test.YtkjjagmpnnnimaaGreatDoorQ23
import Derived.Test.YtkjjagmpnnnimaaGreatDoorQ22
namespace Go.Proofs.YtkjjagmpnnnimaaGreatDoor
open Go.RowKit M
attribute [local go_sem ↓] Go.wp_at_zero Go.wp_at_succ

set_option maxRecDepth 100000 in
set_option maxHeartbeats 6400000 in
theorem rplain_first (w : World) (Pr : Nat → Prop) (g : Nat) (s : LSt) (t : TR) (a : Int) (h : RSt w Pr g s) (hc : s.cols = [1]) (h2 : s.out.length = 1) :
    Calls Tryz.prog 53 #[.pointer (some ⟨g, 0, none⟩), tkV t a 1, .bool true] w (RPost w Pr g s) := by
  have HB0 := Lib.hid (h.more (.cells #[.int .i64 t.kind, .int .i64 t.num, .string (S t.str), .int .i64 a, .int .i64 1] 37))
  have HL := Lib.hid h.lt
  have HCL := Lib.hid (fun W => rcloser_any W t a 1)
  have HCH := Lib.hid (fun W w0 s A0 N c0 h => rcloser_held (w0 := w0) (Pr := orOne Pr w.heap.size) (bx := w.heap.size) (g := g) (s := s) (t := t) (a := a) (b := 1) (A0 := A0) (N := N) (c0 := c0) (W := W) h)
  have HC := Lib.hid hc
  have H2 := Lib.hid h2
  generalize closB t = cl at *
  clear h hc
  go_enter Tryz.func53, Tryz.ntmps53
  go_wp2_with fail
  obtain ⟨w0, hw0⟩ : ∃ w0, w0 = w.alloc (.cells #[.int .i64 t.kind, .int .i64 t.num, .string (S t.str), .int .i64 a, .int .i64 1] 37) := ⟨_, rfl⟩
  have HW0 := Lib.hid hw0
  rw [← hw0] at HB0 ⊢
  have HBX : Hid (∀ (w1 : World) i, Keep (orOne Pr w.heap.size) w0 w1 → w1.cell? ⟨w.heap.size, i, none⟩ = (#[.int .i64 t.kind, .int .i64 t.num, .string (S t.str), .int .i64 a, .int .i64 1] : Array Value)[i]?) := fun w1 i hk => by rw [hw0] at hk; exact box_cell hk i
  have HKB : Hid (∀ w1, Keep (orOne Pr w.heap.size) w0 w1 → Keep Pr w w1) := fun w1 hk => by rw [hw0] at hk; exact keep_box HL.out hk
  clear hw0
  go_loopw [6] (fun c wr => c = .bool false ∧ wr = w0) (fun _ _ => 0)
  case atStart => exact ⟨rfl, rfl⟩
  case round =>
    obtain ⟨rfl, rfl⟩ := hrel
    have k3 : wr.cell? ⟨w.heap.size, 3, none⟩ = some (.int .i64 a) := HBX.out _ 3 (Keep.refl _ _)
    have k4 : wr.cell? ⟨w.heap.size, 4, none⟩ = some (.int .i64 1) := HBX.out _ 4 (Keep.refl _ _)
    have HCO := Lib.hid (fun n => rtop_any (wr.drewN n) (orOne Pr w.heap.size) g _ 1 [] (HB0.out.drewN n) HC.out (by simp))
    have hk0 : wr.cell? ⟨w.heap.size, 0, none⟩ = some (.int .i64 t.kind) := HBX.out _ 0 (Keep.refl _ _)
    have hk1 : wr.cell? ⟨w.heap.size, 1, none⟩ = some (.int .i64 t.num) := HBX.out _ 1 (Keep.refl _ _)
    have hk2 : wr.cell? ⟨w.heap.size, 2, none⟩ = some (.string (S t.str)) := HBX.out _ 2 (Keep.refl _ _)
    have HTH := Lib.hid (fun W A0 N c0 h => rtop_held (w0 := wr) (Pr := orOne Pr w.heap.size) (bx := w.heap.size) (g := g) (s := s) (t := t) (a := a) (b := 1) (A0 := A0) (N := N) (c0 := c0) (W := W) (x := 1) (r := []) HC.out (by simp) h)
    go_wp2_with fail
    go_quiet ((go_at_call 65; exact Calls.quiet_of (HCO.out _)))
    go_wp2_with fail
    refine (HCL.out _).mono ?_
    rintro e w2 ⟨rfl, hb2⟩
    have HB2 := Lib.hid ((HB0.out.drewN _).below hb2)
    have HK2 : Hid (Keep (orOne Pr w.heap.size) wr w2) := ((Keep.refl _ _).drewN _).trans (Keep.below hb2 (HB0.out.drewN _).lt)
    have y0 : w2.cell? ⟨w.heap.size, 0, none⟩ = some (.int .i64 t.kind) := HBX.out _ 0 HK2.out
    have y1 : w2.cell? ⟨w.heap.size, 1, none⟩ = some (.int .i64 t.num) := HBX.out _ 1 HK2.out
    have y2 : w2.cell? ⟨w.heap.size, 2, none⟩ = some (.string (S t.str)) := HBX.out _ 2 HK2.out
    have y3 : w2.cell? ⟨w.heap.size, 3, none⟩ = some (.int .i64 a) := HBX.out _ 3 HK2.out
    have y4 : w2.cell? ⟨w.heap.size, 4, none⟩ = some (.int .i64 1) := HBX.out _ 4 HK2.out
    clear hb2 k3 k4 hk0 hk1 hk2 HCO
    obtain ⟨A0, c0, hS0⟩ := held_make (w0 := wr) HB2.out HK2.out (.inr rfl) y0 y1 y2 y3 y4
    have z0 := hS0.2.2.2.2.2.1
    have hol : (s.out.length : Int) = 1 := by omega
    cases cl
    · go_wp2_with fail
      go_region_held3 (fun W => W.cell? ⟨w.heap.size, 0, none⟩ = some (.int .i64 t.kind) ∧ W.cell? ⟨w.heap.size, 1, none⟩ = some (.int .i64 t.num) ∧ W.cell? ⟨w.heap.size, 2, none⟩ = some (.string (S t.str)) ∧ W.cell? ⟨w.heap.size, 3, none⟩ = some (.int .i64 a) ∧ W.cell? ⟨w.heap.size, 4, none⟩ = some (.int .i64 1) ∧ W.cell? ⟨g, 0, none⟩ = some (.slice A0 s.out.length c0) ∧ Hid (HeldP wr (orOne Pr w.heap.size) w.heap.size g s W)) (first | exact hS0.drew | exact hS1 | exact hS2) (first | (go_at_call 64; refine (HCH.out _ _ _ _ _ _ hS0.drew).mono ?_; rintro e w3 ⟨rfl, hS1⟩) | (go_at_call 65; refine (HTH.out _ _ _ _ hS1).mono ?_; rintro e w4 ⟨rfl, hS2⟩))
      all_goals
        have HB4 := Lib.hid hS2.st
        have HK4 := Lib.hid hS2.kp
        clear hS0 hS1 hS2 z0 y0 y1 y2 HTH HCH
        go_wp2
        go_end0
        exact ⟨rfl, HB4.out.mono (fun k hk => .inl hk), HKB.out _ HK4.out⟩
    · obtain ⟨vt2, vc2, hBA⟩ := HB2.out
      obtain ⟨gc2, cap2, rfl, _, _, _⟩ := hBA.cform HC.out
      have k6 : w2.cell? ⟨g, 1, none⟩ = some (.slice (some ⟨gc2, 0, none⟩) (([] : List Int).length + 1 : Nat) cap2) := hBA.blk.cell 1
      simp only [List.length_nil, Nat.zero_add] at k6
      clear hBA HTH
      go_wp2_with fail
      refine wp_region_noPanic ?_
      refine wp_region_held_drew (S := (fun W => W.cell? ⟨w.heap.size, 0, none⟩ = some (.int .i64 t.kind) ∧ W.cell? ⟨w.heap.size, 1, none⟩ = some (.int .i64 t.num) ∧ W.cell? ⟨w.heap.size, 2, none⟩ = some (.string (S t.str)) ∧ W.cell? ⟨w.heap.size, 3, none⟩ = some (.int .i64 a) ∧ W.cell? ⟨w.heap.size, 4, none⟩ = some (.int .i64 1) ∧ W.cell? ⟨g, 0, none⟩ = some (.slice A0 s.out.length c0) ∧ Hid (HeldP wr (orOne Pr w.heap.size) w.heap.size g s W))) (by kernel_rfl) hS0.drew (fun hHeld => ?_)
      refine wpAnyH_take (i := 0) (oi := { dst := some 38, op := Op.move (Operand.tmp 2), type := 4, pos := "layout.go:63", after := #[], guard := none }) (v := .bool true) rfl (by kernel_rfl) (by kernel_rfl) (by kernel_rfl) (fun _ _ _ h => h) (Or.inl ⟨by rfl, by (intro w hSw; (try dsimp only at hSw); go_simp)⟩) (by assumption) ?_
      try simp only [Act.put, List.setIfInBounds_toArray, List.set_cons_zero, List.set_cons_succ]
      refine wpAnyH_take (i := 1) (oi := { dst := some 39, op := Op.move (Operand.tmp 38), type := 4, pos := "layout.go:63", after := #[{ on := 0, ground := Ground.data }], guard := none }) (v := .bool true) rfl (by kernel_rfl) (by kernel_rfl) (by kernel_rfl) (fun _ _ _ h => h) (Or.inl ⟨by rfl, by (intro w hSw; (try dsimp only at hSw); go_simp)⟩) (by assumption) ?_
      try simp only [Act.put, List.setIfInBounds_toArray, List.set_cons_zero, List.set_cons_succ]
      refine wpAnyH_take (i := 2) (oi := { dst := some 40, op := Op.load 37 (Operand.tmp 4), type := 37, pos := "layout.go:63", after := #[{ on := 1, ground := Ground.guard }], guard := some (1, true) }) (v := tkV t a 1) rfl (by kernel_rfl) (by kernel_rfl) (by kernel_rfl) (fun _ _ _ h => h) (Or.inl ⟨by rfl, by (intro w hSw; (try dsimp only at hSw); go_simp)⟩) (by assumption) ?_
      try simp only [Act.put, List.setIfInBounds_toArray, List.set_cons_zero, List.set_cons_succ]
      refine wpAnyH_ready (rs := [3]) (by kernel_rfl) (by simp) ?_
      refine AllReadyH.cons (o := { dst := some 41, op := Op.call { callee := Callee.value (Operand.func 64), args := #[Operand.tmp 40], argTypes := #[37] }, type := 4, pos := "layout.go:63", after := #[{ on := 2, ground := Ground.data }, { on := 1, ground := Ground.chain }, { on := 1, ground := Ground.guard }], guard := some (1, true) }) rfl (fun K hK => ?_) AllReadyH.nil
      go_simp
      (go_at_call 64; refine (HCH.out _ _ _ _ _ _ hS0.drew).mono ?_; rintro e w3 ⟨rfl, hS1⟩)
      dsimp only
      refine hK.out _ _ hS1 (fun hHeld => ?_)
      clear hK K
      try simp only [Act.put, List.setIfInBounds_toArray, List.set_cons_zero, List.set_cons_succ]
      refine wpAnyH_take (i := 4) (oi := { dst := some 42, op := Op.unOp UnOp.not 4 (Operand.tmp 41), type := 4, pos := "layout.go:63", after := #[{ on := 3, ground := Ground.data }, { on := 1, ground := Ground.guard }], guard := some (1, true) }) (v := .bool false) rfl (by kernel_rfl) (by kernel_rfl) (by kernel_rfl) (fun _ _ _ h => h) (Or.inl ⟨by rfl, by (intro w hSw; (try dsimp only at hSw); go_simp)⟩) (by assumption) ?_
      try simp only [Act.put, List.setIfInBounds_toArray, List.set_cons_zero, List.set_cons_succ]
      refine wpAnyH_take (i := 5) (oi := { dst := some 43, op := Op.pick (Operand.tmp 39) (Operand.tmp 42) (Operand.const (Value.bool false)), type := 4, pos := "layout.go:63", after := #[{ on := 1, ground := Ground.data }, { on := 4, ground := Ground.data }], guard := none }) (v := .bool false) rfl (by kernel_rfl) (by kernel_rfl) (by kernel_rfl) (fun _ _ _ h => h) (Or.inl ⟨by rfl, by (intro w hSw; (try dsimp only at hSw); go_simp)⟩) (by assumption) ?_
      try simp only [Act.put, List.setIfInBounds_toArray, List.set_cons_zero, List.set_cons_succ]
      refine wpAnyH_take (i := 6) (oi := { dst := some 44, op := Op.move (Operand.tmp 43), type := 4, pos := "layout.go:63", after := #[{ on := 5, ground := Ground.data }, { on := 3, ground := Ground.chain }], guard := none }) (v := .bool false) rfl (by kernel_rfl) (by kernel_rfl) (by kernel_rfl) (fun _ _ _ h => h) (Or.inl ⟨by rfl, by (intro w hSw; (try dsimp only at hSw); go_simp)⟩) (by assumption) ?_
      try simp only [Act.put, List.setIfInBounds_toArray, List.set_cons_zero, List.set_cons_succ]
      refine wpAnyH_take (i := 7) (oi := { dst := some 45, op := Op.fieldAddr 37 (Operand.tmp 4) 3, type := 0, pos := "layout.go:63", after := #[{ on := 6, ground := Ground.guard }], guard := some (6, true) }) (v := undef) rfl (by kernel_rfl) (by kernel_rfl) (by kernel_rfl) (fun _ _ _ h => h) (Or.inr ⟨by rfl, rfl⟩) (by assumption) ?_
      try simp only [Act.put, List.setIfInBounds_toArray, List.set_cons_zero, List.set_cons_succ]
      refine wpAnyH_take (i := 8) (oi := { dst := some 46, op := Op.fieldAddr 25 (Operand.tmp 45) 1, type := 0, pos := "layout.go:63", after := #[{ on := 7, ground := Ground.data }, { on := 6, ground := Ground.guard }], guard := some (6, true) }) (v := undef) rfl (by kernel_rfl) (by kernel_rfl) (by kernel_rfl) (fun _ _ _ h => h) (Or.inr ⟨by rfl, rfl⟩) (by assumption) ?_
      try simp only [Act.put, List.setIfInBounds_toArray, List.set_cons_zero, List.set_cons_succ]
      refine wpAnyH_take (i := 9) (oi := { dst := some 47, op := Op.load 3 (Operand.tmp 46), type := 3, pos := "layout.go:63", after := #[{ on := 8, ground := Ground.data }, { on := 6, ground := Ground.guard }], guard := some (6, true) }) (v := undef) rfl (by kernel_rfl) (by kernel_rfl) (by kernel_rfl) (fun _ _ _ h => h) (Or.inr ⟨by rfl, rfl⟩) (by assumption) ?_
      try simp only [Act.put, List.setIfInBounds_toArray, List.set_cons_zero, List.set_cons_succ]
      refine wpAnyH_take (i := 10) (oi := { dst := some 48, op := Op.move (Operand.tmp 0), type := 73, pos := "layout.go:63", after := #[{ on := 6, ground := Ground.guard }], guard := some (6, true) }) (v := undef) rfl (by kernel_rfl) (by kernel_rfl) (by kernel_rfl) (fun _ _ _ h => h) (Or.inr ⟨by rfl, rfl⟩) (by assumption) ?_
      try simp only [Act.put, List.setIfInBounds_toArray, List.set_cons_zero, List.set_cons_succ]
      refine wpAnyH_take (i := 11) (oi := { dst := some 49, op := Op.call { callee := Callee.value (Operand.func 65), args := #[Operand.tmp 48], argTypes := #[73] }, type := 3, pos := "layout.go:63", after := #[{ on := 10, ground := Ground.data }, { on := 6, ground := Ground.chain }, { on := 6, ground := Ground.guard }], guard := some (6, true) }) (v := undef) rfl (by kernel_rfl) (by kernel_rfl) (by kernel_rfl) (fun _ _ _ h => h) (Or.inr ⟨by rfl, rfl⟩) (by assumption) ?_
      try simp only [Act.put, List.setIfInBounds_toArray, List.set_cons_zero, List.set_cons_succ]
      refine wpAnyH_take (i := 12) (oi := { dst := some 50, op := Op.binOp BinOp.eql 3 (Operand.tmp 47) (Operand.tmp 49) 3, type := 4, pos := "layout.go:63", after := #[{ on := 9, ground := Ground.data }, { on := 11, ground := Ground.data }, { on := 6, ground := Ground.guard }], guard := some (6, true) }) (v := undef) rfl (by kernel_rfl) (by kernel_rfl) (by kernel_rfl) (fun _ _ _ h => h) (Or.inr ⟨by rfl, rfl⟩) (by assumption) ?_
      try simp only [Act.put, List.setIfInBounds_toArray, List.set_cons_zero, List.set_cons_succ]
      refine wpAnyH_take (i := 13) (oi := { dst := some 51, op := Op.pick (Operand.tmp 44) (Operand.tmp 50) (Operand.const (Value.bool false)), type := 4, pos := "layout.go:63", after := #[{ on := 6, ground := Ground.data }, { on := 12, ground := Ground.data }], guard := none }) (v := .bool false) rfl (by kernel_rfl) (by kernel_rfl) (by kernel_rfl) (fun _ _ _ h => h) (Or.inl ⟨by rfl, by (intro w hSw; (try dsimp only at hSw); go_simp)⟩) (by assumption) ?_
      try simp only [Act.put, List.setIfInBounds_toArray, List.set_cons_zero, List.set_cons_succ]
      refine wpAnyH_take (i := 14) (oi := { dst := some 52, op := Op.move (Operand.tmp 51), type := 4, pos := "layout.go:63", after := #[{ on := 13, ground := Ground.data }, { on := 11, ground := Ground.chain }], guard := none }) (v := .bool false) rfl (by kernel_rfl) (by kernel_rfl) (by kernel_rfl) (fun _ _ _ h => h) (Or.inl ⟨by rfl, by (intro w hSw; (try dsimp only at hSw); go_simp)⟩) (by assumption) ?_
      try simp only [Act.put, List.setIfInBounds_toArray, List.set_cons_zero, List.set_cons_succ]
      refine wpAnyH_take (i := 15) (oi := { dst := some 53, op := Op.move (Operand.tmp 0), type := 73, pos := "layout.go:63", after := #[{ on := 14, ground := Ground.guard }], guard := some (14, true) }) (v := undef) rfl (by kernel_rfl) (by kernel_rfl) (by kernel_rfl) (fun _ _ _ h => h) (Or.inr ⟨by rfl, rfl⟩) (by assumption) ?_
      try simp only [Act.put, List.setIfInBounds_toArray, List.set_cons_zero, List.set_cons_succ]
      refine wpAnyH_take (i := 16) (oi := { dst := some 54, op := Op.nilCheck (Operand.tmp 53), type := 0, pos := "layout.go:63", after := #[{ on := 15, ground := Ground.data }, { on := 14, ground := Ground.guard }], guard := some (14, true) }) (v := undef) rfl (by kernel_rfl) (by kernel_rfl) (by kernel_rfl) (fun _ _ _ h => h) (Or.inr ⟨by rfl, rfl⟩) (by assumption) ?_
      try simp only [Act.put, List.setIfInBounds_toArray, List.set_cons_zero, List.set_cons_succ]
      refine wpAnyH_take (i := 17) (oi := { dst := some 55, op := Op.fieldAddr 75 (Operand.tmp 54) 0, type := 0, pos := "layout.go:63", after := #[{ on := 16, ground := Ground.data }, { on := 14, ground := Ground.guard }], guard := some (14, true) }) (v := undef) rfl (by kernel_rfl) (by kernel_rfl) (by kernel_rfl) (fun _ _ _ h => h) (Or.inr ⟨by rfl, rfl⟩) (by assumption) ?_
      try simp only [Act.put, List.setIfInBounds_toArray, List.set_cons_zero, List.set_cons_succ]
      refine wpAnyH_take (i := 18) (oi := { dst := some 56, op := Op.load 23 (Operand.tmp 55), type := 23, pos := "layout.go:63", after := #[{ on := 17, ground := Ground.data }, { on := 14, ground := Ground.guard }], guard := some (14, true) }) (v := undef) rfl (by kernel_rfl) (by kernel_rfl) (by kernel_rfl) (fun _ _ _ h => h) (Or.inr ⟨by rfl, rfl⟩) (by assumption) ?_
      try simp only [Act.put, List.setIfInBounds_toArray, List.set_cons_zero, List.set_cons_succ]
      refine wpAnyH_take (i := 19) (oi := { dst := some 57, op := Op.call { callee := Callee.builtin Builtin.len, args := #[Operand.tmp 56], argTypes := #[23] }, type := 3, pos := "layout.go:63", after := #[{ on := 18, ground := Ground.data }, { on := 14, ground := Ground.guard }], guard := some (14, true) }) (v := undef) rfl (by kernel_rfl) (by kernel_rfl) (by kernel_rfl) (fun _ _ _ h => h) (Or.inr ⟨by rfl, rfl⟩) (by assumption) ?_
      try simp only [Act.put, List.setIfInBounds_toArray, List.set_cons_zero, List.set_cons_succ]
      refine wpAnyH_take (i := 20) (oi := { dst := some 58, op := Op.binOp BinOp.gtr 3 (Operand.tmp 57) (Operand.const (Value.int IntKind.i64 1)) 3, type := 4, pos := "layout.go:63", after := #[{ on := 19, ground := Ground.data }, { on := 14, ground := Ground.guard }], guard := some (14, true) }) (v := undef) rfl (by kernel_rfl) (by kernel_rfl) (by kernel_rfl) (fun _ _ _ h => h) (Or.inr ⟨by rfl, rfl⟩) (by assumption) ?_
      try simp only [Act.put, List.setIfInBounds_toArray, List.set_cons_zero, List.set_cons_succ]
      refine wpAnyH_take (i := 21) (oi := { dst := some 59, op := Op.pick (Operand.tmp 52) (Operand.tmp 58) (Operand.const (Value.bool false)), type := 4, pos := "layout.go:63", after := #[{ on := 14, ground := Ground.data }, { on := 20, ground := Ground.data }], guard := none }) (v := .bool false) rfl (by kernel_rfl) (by kernel_rfl) (by kernel_rfl) (fun _ _ _ h => h) (Or.inl ⟨by rfl, by (intro w hSw; (try dsimp only at hSw); go_simp)⟩) (by assumption) ?_
      try simp only [Act.put, List.setIfInBounds_toArray, List.set_cons_zero, List.set_cons_succ]
      refine wpAnyH_done (by kernel_rfl) ?_ _
      refine NoPanic.normal ?_
      have HB4 := Lib.hid hS1.st
      have HK4 := Lib.hid hS1.kp
      clear hS0 hS1 z0 y0 y1 y2 HCH
      go_wp2
      go_end0
      exact ⟨rfl, HB4.out.mono (fun k hk => .inl hk), HKB.out _ HK4.out⟩

end Go.Proofs.YtkjjagmpnnnimaaGreatDoor

namespace Go.Proofs.YtkjjagmpnnnimaaGreatDoor
open Go.RowKit M

/-- a token that begins no block -/
theorem plain_ok {k : Nat} {s : LSt} {t : TR} {a b : Int} {st : Bool} (hI : LInv k s) (hJ : RInv k s) (hinv : ¬ (valT t && isAft (a, b) s.last) = false) (hb : 1 ≤ b) (hk : k ≤ 200000000)
    (hst : st = (((k : Int) == 0) || decide ((lastR k s).1 < a))) (hfe : false = (((k : Int) == 0) && (b != 1))) (hbg : false = (!decide (s.item = (0, 0)) || (!decide (s.line = (0, 0)) && st))) (Pr : Nat → Prop) (g : Nat) :
    ∃ s2 : LSt, addL s (t, (a, b)) = (0, finL s2.out s2.cols s2.item s2.line (t, (a, b))) ∧ s2.out.length ≤ 1000000000 ∧
      ∀ W, RSt W Pr g s → Calls Tryz.prog 53 #[.pointer (some ⟨g, 0, none⟩), tkV t a b, .bool st] W (RPost W Pr g s2) := by
  by_cases hk0 : k = 0
  · have hs := hJ.zero hk0
    have e0 : ((k : Int) == 0) = true := beq_iff_eq.2 (by omega)
    rw [e0] at hst hfe
    simp at hst hfe
    subst hst hfe
    subst hs
    refine ⟨startL, ?_, by decide, fun W h => rplain_first W _ _ _ t a h rfl rfl⟩
    unfold addL
    rw [if_neg hinv, if_pos (show startL.last = (0, 0) from rfl), if_neg (by simp)]
  · obtain ⟨hl0, hl1, h2o⟩ := hJ.pos hk0
    have e0 : ((k : Int) == 0) = false := beq_eq_false_iff_ne.2 (by omega)
    have hlr : lastR k s = s.last := by unfold lastR; rw [if_neg hk0]
    rw [e0, hlr, Bool.false_or] at hst
    have hi : s.item = (0, 0) := by
      by_cases h : s.item = (0, 0)
      · exact h
      · rw [decide_eq_false h] at hbg; simp at hbg
    have hli : ¬ (s.last.1 < a ∧ s.line ≠ (0, 0)) := by
      rintro ⟨q1, q2⟩
      rw [decide_eq_true hi, decide_eq_false q2, hst, decide_eq_true q1] at hbg
      simp at hbg
    have hsz1 := hI.out
    have hsz2 := hI.size
    have hadd : addL s (t, (a, b)) = (0, finL (procL s.out s.cols (t, (a, b)) st).1 (procL s.out s.cols (t, (a, b)) st).2 s.item s.line (t, (a, b))) := by
      unfold addL
      rw [if_neg hinv, if_neg hl0, if_neg (fun q => q hi), if_neg hli, hst]
    have hpo := (procL_ok (out := s.out) (t := (t, (a, b))) st hI.base hI.size hb).2.2
    refine ⟨{ s with out := (procL s.out s.cols (t, (a, b)) st).1, cols := (procL s.out s.cols (t, (a, b)) st).2 }, hadd, by show (procL s.out s.cols (t, (a, b)) st).1.length ≤ _; omega, fun W h => ?_⟩
    clear hst hbg hadd hpo
    cases st
    · exact rplain_same W _ _ s t a b h (fun q => by have := hI.base; rw [q] at this; simp at this) (by omega)
    · exact rplain_line W _ _ s t a b h hI.base hb (by omega) h2o
/-- a token that begins a block -/
theorem begin_ok {k : Nat} {s : LSt} {t : TR} {a b : Int} {st : Bool} (hI : LInv k s) (hJ : RInv k s) (hinv : ¬ (valT t && isAft (a, b) s.last) = false) (hk : k ≤ 200000000)
    (hst : st = (((k : Int) == 0) || decide ((lastR k s).1 < a))) (hbg : true = (!decide (s.item = (0, 0)) || (!decide (s.line = (0, 0)) && st))) :
    (addL s (t, (a, b)) = if (begL s.out s.cols (t, (a, b))).1 ≠ 0 then ((begL s.out s.cols (t, (a, b))).1, s)
      else (0, finL (begL s.out s.cols (t, (a, b))).2.1 (begL s.out s.cols (t, (a, b))).2.2 (0, 0) (if s.item = (0, 0) then (0, 0) else s.line) (t, (a, b)))) ∧
    (∃ x r, s.cols = x :: r ∧ r.length + 1 ≤ 64) ∧ s.out.length ≤ 999999999 ∧ (begL s.out s.cols (t, (a, b))).2.1.length ≤ 1000000000 := by
  have hk0 : k ≠ 0 := fun h0 => by
    have hs := hJ.zero h0
    subst hs
    simp [startL] at hbg
  obtain ⟨hl0, hl1, h2o⟩ := hJ.pos hk0
  have e0 : ((k : Int) == 0) = false := beq_eq_false_iff_ne.2 (by omega)
  have hlr : lastR k s = s.last := by unfold lastR; rw [if_neg hk0]
  rw [e0, hlr, Bool.false_or] at hst
  have hsz1 := hI.out
  have hsz2 := hI.size
  have hbl := begL_len s.out s.cols (t, (a, b))
  refine ⟨?_, ?_, by omega, by omega⟩
  · unfold addL
    rw [if_neg hinv, if_neg hl0]
    by_cases hi : s.item = (0, 0)
    · have hli : s.last.1 < a ∧ s.line ≠ (0, 0) := by
        rw [decide_eq_true hi] at hbg
        simp only [Bool.not_true, Bool.false_or] at hbg
        have h2 := hbg.symm
        rw [Bool.and_eq_true, Bool.not_eq_true', decide_eq_false_iff_not, hst, decide_eq_true_eq] at h2
        exact ⟨h2.2, h2.1⟩
      rw [if_neg (fun q => q hi), if_pos hli, if_pos hi]
    · rw [if_pos hi, if_neg hi]
  · cases hc : s.cols with
    | nil => have := hI.base; rw [hc] at this; simp at this
    | cons x r => exact ⟨x, r, rfl, by rw [hc] at hsz2; simpa using hsz2⟩

end Go.Proofs.YtkjjagmpnnnimaaGreatDoor

namespace Go.Proofs.YtkjjagmpnnnimaaGreatDoor
open Go.RowKit M

set_option maxRecDepth 100000 in
set_option maxHeartbeats 3200000 in
theorem proceed_same (w : World) (Pr : Nat → Prop) (g : Nat) (s : LSt) (t : TR) (a b : Int) (h : BSt w Pr g s) (hl : s.cols ≠ []) (hn : s.out.length + s.cols.length ≤ 999999998) :
    Calls Tryz.prog 61 #[.pointer (some ⟨g, 0, none⟩), tkV t a b, .bool false] w
      (BPost w Pr g { s with out := (procL s.out s.cols (t, (a, b)) false).1, cols := (procL s.out s.cols (t, (a, b)) false).2 }) := by
  have HB0 := Lib.hid (h.more (.cells #[.int .i64 t.kind, .int .i64 t.num, .string (S t.str), .int .i64 a, .int .i64 b] 37))
  have HL := Lib.hid h.lt
  have HCL := Lib.hid (fun W => closer_any W t a b)
  have hP : Hid (procL s.out s.cols (t, (a, b)) false = if closB t = true then (if 1 < s.cols.length then (s.out ++ [mkT 7 (a, b)], s.cols.tail) else (s.out, s.cols)) else (s.out, s.cols)) := by
    unfold Hid procL procE popS; simp
  generalize procL s.out s.cols (t, (a, b)) false = Q at *
  generalize closB t = cl at *
  obtain ⟨out, cols, la, it, li⟩ := s
  cases cols with
  | nil => exact absurd rfl hl
  | cons x r =>
    simp only at hP hn
    obtain ⟨vt, vc, hBA⟩ := HB0.out
    obtain ⟨gc, cap, rfl, _, _, _⟩ := hBA.cform rfl
    have k0 : (w.alloc (.cells #[.int .i64 t.kind, .int .i64 t.num, .string (S t.str), .int .i64 a, .int .i64 b] 37)).cell? ⟨g, 1, none⟩ = some (.slice (some ⟨gc, 0, none⟩) (r.length + 1 : Nat) cap) := hBA.blk.cell 1
    rw [List.length_cons] at hn hP
    clear h hl hBA
    go_enter Tryz.func61, Tryz.ntmps61
    go_wp2_with fail
    clear k0
    go_loopw [] (fun wr => Hid (∃ n, wr = (w.alloc (.cells #[.int .i64 t.kind, .int .i64 t.num, .string (S t.str), .int .i64 a, .int .i64 b] 37)).drewN n)) (fun wr => 0)
    case atStart => exact ⟨0, rfl⟩
    case round =>
      obtain ⟨n, hw⟩ := hrel.out
      subst hw
      clear hrel
      go_wp2_with fail
      go_quiet (fail)
      go_wp2_with fail
      refine (HCL.out _).mono ?_
      rintro e w2 ⟨rfl, hb2⟩
      have HB2 := Lib.hid ((HB0.out.drewN _).below hb2)
      have HK2 := Lib.hid (((Keep.refl (orOne Pr w.heap.size) _).drewN _).trans (Keep.below hb2 (HB0.out.drewN _).lt))
      have k3 : w2.cell? ⟨w.heap.size, 3, none⟩ = some (.int .i64 a) := box_cell HK2.out 3
      have k4 : w2.cell? ⟨w.heap.size, 4, none⟩ = some (.int .i64 b) := box_cell HK2.out 4
      obtain ⟨vt2, vc2, hBA⟩ := HB2.out
      obtain ⟨gc2, cap2, rfl, _, _, _⟩ := hBA.cform rfl
      have k6 : w2.cell? ⟨g, 1, none⟩ = some (.slice (some ⟨gc2, 0, none⟩) (r.length + 1 : Nat) cap2) := hBA.blk.cell 1
      clear hb2 hBA
      cases cl
      · rw [if_neg (by decide)] at hP
        go_wp2_with fail
        go_quiet (fail)
        go_wp2
        go_end0
        rw [hP.out]
        exact ⟨rfl, (HB2.out.drewN _).mono (fun k hk => .inl hk), keep_box HL.out (HK2.out.drewN _)⟩
      · rw [if_pos rfl] at hP
        by_cases h1 : 1 < r.length + 1
        · rw [if_pos h1] at hP
          go_wp2_with fail
          refine (close_any _ _ g _ a b x r HB2.out rfl (by simp; omega) (by omega)).mono ?_
          rintro e w3 ⟨rfl, hB3, hK3⟩
          have HB3 := Lib.hid hB3
          have HK3 := Lib.hid (HK2.out.trans hK3)
          clear hB3 hK3
          go_wp2
          go_end0
          rw [hP.out]
          exact ⟨rfl, HB3.out.mono (fun k hk => .inl hk), keep_box HL.out HK3.out⟩
        · rw [if_neg h1] at hP
          go_wp2
          go_end0
          rw [hP.out]
          exact ⟨rfl, HB2.out.mono (fun k hk => .inl hk), keep_box HL.out HK2.out⟩

/-- only the builder's own block has turned -/
theorem BAt.turn {w w' : World} {Pr : Nat → Prop} {g : Nat} {s : LSt} {vt vc : Value} (h : BAt w Pr g s vt vc) (hg : w.grownBy w' (some g)) (la it li : Int × Int)
    (hb : Blk w' g 71 (bCells vt vc la it li)) : BSt w' Pr g { s with last := la, item := it, line := li } ∧ Keep Pr w w' :=
  ⟨⟨vt, vc, hb, h.rt.kept hg (by
      cases ho : vt.ownBlock with
      | none => exact .inl rfl
      | some k => exact .inr (fun q => h.gt (by rw [ho, q]))), h.rc.kept hg (by
      cases ho : vc.ownBlock with
      | none => exact .inl rfl
      | some k => exact .inr (fun q => h.gc (by rw [ho, q]))), h.ng, h.nt, h.nc, fun k hk => Nat.lt_of_lt_of_le (h.lt k hk) hg.size⟩,
    (Keep.refl Pr w).grown hg h.lt (fun k hk => by injection hk with hk; rw [← hk]; exact h.ng)⟩

/-- the keyword that the next token answers -/
def ansL (s : LSt) (st : Bool) : Bool × LSt :=
  if s.item ≠ (0, 0) then (true, { s with item := (0, 0) }) else if st = true ∧ s.line ≠ (0, 0) then (true, { s with line := (0, 0) }) else (false, s)
def AnsPost (w : World) (Pr : Nat → Prop) (g : Nat) (r : Bool × LSt) (e : Ending) (w' : World) : Prop := e = .returned (.bool r.1) ∧ BSt w' Pr g r.2 ∧ Keep Pr w w'
theorem pair_zero (p : Int × Int) : (p = (0, 0)) ∨ (p ≠ (0, 0) ∧ ((p.1 == 0) = false ∨ ((p.1 == 0) = true ∧ (p.2 == 0) = false))) := by
  obtain ⟨a, b⟩ := p
  by_cases h1 : a = 0
  · by_cases h2 : b = 0
    · left; rw [h1, h2]
    · right; exact ⟨by intro q; injection q with q1 q2; exact h2 q2, .inr ⟨beq_iff_eq.2 h1, beq_eq_false_iff_ne.2 h2⟩⟩
  · right; exact ⟨by intro q; injection q with q1 q2; exact h1 q1, .inl (beq_eq_false_iff_ne.2 h1)⟩

set_option maxRecDepth 100000 in
set_option maxHeartbeats 3200000 in
theorem answer_any (w : World) (Pr : Nat → Prop) (g : Nat) (s : LSt) (st : Bool) (h : BSt w Pr g s) :
    Calls Tryz.prog 59 #[.pointer (some ⟨g, 0, none⟩), .bool st] w (AnsPost w Pr g (ansL s st)) := by
  obtain ⟨vt, vc, hB⟩ := h
  have hR : Hid (ansL s st = if s.item ≠ (0, 0) then (true, { s with item := (0, 0) }) else if st = true ∧ s.line ≠ (0, 0) then (true, { s with line := (0, 0) }) else (false, s)) := rfl
  generalize ansL s st = R at *
  have k4 : w.cell? ⟨g, 4, none⟩ = some (.int .i64 s.item.1) := hB.blk.cell 4
  have k5 : w.cell? ⟨g, 5, none⟩ = some (.int .i64 s.item.2) := hB.blk.cell 5
  have k6 : w.cell? ⟨g, 6, none⟩ = some (.int .i64 s.line.1) := hB.blk.cell 6
  have k7 : w.cell? ⟨g, 7, none⟩ = some (.int .i64 s.line.2) := hB.blk.cell 7
  have f : ∀ i, w.frozen? ⟨g, i, none⟩ = false := fun i => hB.blk.frozen i
  have HB := Lib.hid hB
  clear hB
  have hitem := (HB.out.turn (only_set (only_set (only_refl w (some g)) _ _) _ _) s.last (0, 0) s.line ((HB.out.blk.set_ 4 (.int .i64 0)).set_ 5 (.int .i64 0)))
  have hline := (HB.out.turn (only_set (only_set (only_refl w (some g)) _ _) _ _) s.last s.item (0, 0) ((HB.out.blk.set_ 6 (.int .i64 0)).set_ 7 (.int .i64 0)))
  have HIT := Lib.hid hitem
  have HLI := Lib.hid hline
  clear hitem hline
  rcases pair_zero s.item with h1 | ⟨h1, h2⟩
  · rw [if_neg (fun q => q h1)] at hR
    rw [h1] at k4 k5
    simp only at k4 k5
    have H1 := Lib.hid h1
    clear h1
    cases st
    · rw [if_neg (fun q => absurd q.1 (by decide))] at hR
      go_enter Tryz.func59, Tryz.ntmps59
      go_wp2
      go_ret
      rw [hR.out]
      exact ⟨rfl, ⟨vt, vc, HB.out⟩, Keep.refl _ _⟩
    · rcases pair_zero s.line with h3 | ⟨h3, h4⟩
      · rw [if_neg (fun q => q.2 h3)] at hR
        rw [h3] at k6 k7
        simp only at k6 k7
        have H3 := Lib.hid h3
        clear h3
        go_enter Tryz.func59, Tryz.ntmps59
        go_wp2
        go_ret
        rw [hR.out]
        exact ⟨rfl, ⟨vt, vc, HB.out⟩, Keep.refl _ _⟩
      · rw [if_pos ⟨rfl, h3⟩] at hR
        clear h3
        rcases h4 with h4 | ⟨h4, h5⟩
        all_goals
          go_enter Tryz.func59, Tryz.ntmps59
          go_wp2
          go_ret
          rw [hR.out]
          exact ⟨rfl, HLI.out.1, HLI.out.2⟩
  · rw [if_pos h1] at hR
    clear h1
    rcases h2 with h2 | ⟨h2, h3⟩
    all_goals
      go_enter Tryz.func59, Tryz.ntmps59
      go_wp2
      go_ret
      rw [hR.out]
      exact ⟨rfl, HIT.out.1, HIT.out.2⟩

set_option maxRecDepth 100000 in
set_option maxHeartbeats 3200000 in
theorem await_any (w : World) (Pr : Nat → Prop) (g : Nat) (s : LSt) (t : TR) (a b : Int) (h : BSt w Pr g s) :
    Calls Tryz.prog 62 #[.pointer (some ⟨g, 0, none⟩), tkV t a b] w
      (BPost w Pr g { s with item := if itemK t = true then (a, b) else s.item, line := if lineK t = true then (a, b) else s.line }) := by
  obtain ⟨kd, nu, st, er⟩ := t
  have HL := Lib.hid h.lt
  have HB0 := Lib.hid (h.more (.cells #[.int .i64 kd, .int .i64 nu, .string (S st), .int .i64 a, .int .i64 b] 37))
  clear h
  obtain ⟨vt, vc, hBA⟩ := HB0.out
  have HBA := Lib.hid hBA
  have f : ∀ i, (w.alloc (.cells #[.int .i64 kd, .int .i64 nu, .string (S st), .int .i64 a, .int .i64 b] 37)).frozen? ⟨g, i, none⟩ = false := fun i => hBA.blk.frozen i
  have k4 : (w.alloc (.cells #[.int .i64 kd, .int .i64 nu, .string (S st), .int .i64 a, .int .i64 b] 37)).cell? ⟨g, 4, none⟩ = some (.int .i64 s.item.1) := hBA.blk.cell 4
  have k5 : (w.alloc (.cells #[.int .i64 kd, .int .i64 nu, .string (S st), .int .i64 a, .int .i64 b] 37)).cell? ⟨g, 5, none⟩ = some (.int .i64 s.item.2) := hBA.blk.cell 5
  have k6 : (w.alloc (.cells #[.int .i64 kd, .int .i64 nu, .string (S st), .int .i64 a, .int .i64 b] 37)).cell? ⟨g, 6, none⟩ = some (.int .i64 s.line.1) := hBA.blk.cell 6
  have k7 : (w.alloc (.cells #[.int .i64 kd, .int .i64 nu, .string (S st), .int .i64 a, .int .i64 b] 37)).cell? ⟨g, 7, none⟩ = some (.int .i64 s.line.2) := hBA.blk.cell 7
  have HIT := Lib.hid (hBA.turn (only_set (only_set (only_refl _ (some g)) _ _) _ _) s.last (a, b) s.line ((hBA.blk.set_ 4 (.int .i64 a)).set_ 5 (.int .i64 b)))
  have HLI := Lib.hid (hBA.turn (only_set (only_set (only_refl _ (some g)) _ _) _ _) s.last s.item (a, b) ((hBA.blk.set_ 6 (.int .i64 a)).set_ 7 (.int .i64 b)))
  have hK0 : Hid (Keep (orOne Pr w.heap.size) (w.alloc (.cells #[.int .i64 kd, .int .i64 nu, .string (S st), .int .i64 a, .int .i64 b] 37)) (w.alloc (.cells #[.int .i64 kd, .int .i64 nu, .string (S st), .int .i64 a, .int .i64 b] 37))) := Keep.refl _ _
  clear hBA
  have e1 := beqEq st kwLet
  have e2 := beqEq st kwExports
  have e3 := beqEq st kwModule
  have e4 := beqEq st kwTimed
  have n3 : st = kwModule → st ≠ kwLet ∧ st ≠ kwExports := fun q => by rw [q]; decide
  have n4 : st = kwTimed → st ≠ kwLet ∧ st ≠ kwExports := fun q => by rw [q]; decide
  have n1 : st = kwLet → st ≠ kwModule ∧ st ≠ kwTimed := fun q => by rw [q]; decide
  have n2 : st = kwExports → st ≠ kwModule ∧ st ≠ kwTimed := fun q => by rw [q]; decide
  show Calls _ _ #[_, .agg #[.int .i64 kd, .int .i64 nu, .string (S st), .int .i64 a, .int .i64 b]] _ (BPost w Pr g { s with item := if (decide (kd = 3) && (decide (st = kwLet) || decide (st = kwExports))) = true then (a, b) else s.item, line := if (decide (kd = 3) && (decide (st = kwModule) || decide (st = kwTimed))) = true then (a, b) else s.line })
  by_cases hk : kd = 3
  · have g0 : (kd != 3) = false := by simp [hk]
    rw [decide_eq_true hk]
    clear hk
    by_cases c1 : st = kwLet
    · have d1 : (st == [108, 101, 116]) = true := e1.trans (decide_eq_true c1)
      rw [decide_eq_true c1, decide_eq_false (n1 c1).1, decide_eq_false (n1 c1).2]
      clear e1 e2 e3 e4 n1 n2 n3 n4 c1
      go_enter Tryz.func62, Tryz.ntmps62
      go_wp2
      go_end0
      exact ⟨rfl, HIT.out.1.mono (fun k hk => .inl hk), keep_box HL.out (hK0.out.trans HIT.out.2)⟩
    · by_cases c2 : st = kwExports
      · have d1 : (st == [108, 101, 116]) = false := e1.trans (decide_eq_false c1)
        have d2 : (st == [101, 120, 112, 111, 114, 116, 115]) = true := e2.trans (decide_eq_true c2)
        rw [decide_eq_false c1, decide_eq_true c2, decide_eq_false (n2 c2).1, decide_eq_false (n2 c2).2]
        clear e1 e2 e3 e4 n1 n2 n3 n4 c1 c2
        go_enter Tryz.func62, Tryz.ntmps62
        go_wp2
        go_end0
        exact ⟨rfl, HIT.out.1.mono (fun k hk => .inl hk), keep_box HL.out (hK0.out.trans HIT.out.2)⟩
      · have d1 : (st == [108, 101, 116]) = false := e1.trans (decide_eq_false c1)
        have d2 : (st == [101, 120, 112, 111, 114, 116, 115]) = false := e2.trans (decide_eq_false c2)
        rw [decide_eq_false c1, decide_eq_false c2]
        by_cases c3 : st = kwModule
        · have d3 : (st == [109, 111, 100, 117, 108, 101]) = true := e3.trans (decide_eq_true c3)
          rw [decide_eq_true c3]
          clear e1 e2 e3 e4 n1 n2 n3 n4 c1 c2 c3
          go_enter Tryz.func62, Tryz.ntmps62
          go_wp2
          go_end0
          exact ⟨rfl, HLI.out.1.mono (fun k hk => .inl hk), keep_box HL.out (hK0.out.trans HLI.out.2)⟩
        · have d3 : (st == [109, 111, 100, 117, 108, 101]) = false := e3.trans (decide_eq_false c3)
          rw [decide_eq_false c3]
          by_cases c4 : st = kwTimed
          · have d4 : (st == [84, 105, 109, 101, 100]) = true := e4.trans (decide_eq_true c4)
            rw [decide_eq_true c4]
            clear e1 e2 e3 e4 n1 n2 n3 n4 c1 c2 c3 c4
            go_enter Tryz.func62, Tryz.ntmps62
            go_wp2
            go_end0
            exact ⟨rfl, HLI.out.1.mono (fun k hk => .inl hk), keep_box HL.out (hK0.out.trans HLI.out.2)⟩
          · have d4 : (st == [84, 105, 109, 101, 100]) = false := e4.trans (decide_eq_false c4)
            rw [decide_eq_false c4]
            clear e1 e2 e3 e4 n1 n2 n3 n4 c1 c2 c3 c4
            go_enter Tryz.func62, Tryz.ntmps62
            go_wp2
            go_end0
            exact ⟨rfl, HB0.out.mono (fun k hk => .inl hk), keep_box HL.out hK0.out⟩
  · have g0 : (kd != 3) = true := by simp [hk]
    rw [decide_eq_false hk]
    clear hk e1 e2 e3 e4 n1 n2 n3 n4
    go_enter Tryz.func62, Tryz.ntmps62
    go_wp2
    go_end0
    exact ⟨rfl, HB0.out.mono (fun k hk => .inl hk), keep_box HL.out hK0.out⟩

end Go.Proofs.YtkjjagmpnnnimaaGreatDoor
