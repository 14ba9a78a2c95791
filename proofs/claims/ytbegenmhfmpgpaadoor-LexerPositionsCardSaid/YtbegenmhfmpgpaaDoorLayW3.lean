/- The program's isCloser, isAfter, begin and proceed: the blocks that a token opens and closes. Condition: fewer than a thousand million tokens and blocks. -/
import Derived.Test.YtbegenmhfmpgpaaDoorLayW2
import Derived.Deep.RegionHeld3
namespace Go.Proofs.YtbegenmhfmpgpaaDoor
open Go.RowKit M

/-- a token's value -/
abbrev tkV (t : TR) (a b : Int) : Value := .agg #[.int .i64 t.kind, .int .i64 t.num, .string (S t.str), .int .i64 a, .int .i64 b]
theorem beqEq (l k : Bs) : (l == k) = decide (l = k) := by
  by_cases h : l = k
  · rw [decide_eq_true h]; exact beq_iff_eq.2 h
  · rw [decide_eq_false h]; exact beq_eq_false_iff_ne.2 h

set_option maxHeartbeats 2000000 in
theorem closer_any (w : World) (t : TR) (a b : Int) :
    Calls Tryd.prog 101 #[tkV t a b] w fun e w' => e = .returned (.bool (closB t)) ∧ Below w.heap.size w w' := by
  obtain ⟨kd, nu, st, er⟩ := t
  show Calls _ _ #[.agg #[.int .i64 kd, .int .i64 nu, .string (S st), .int .i64 a, .int .i64 b]] _ fun e w' => e = .returned (.bool (decide (kd = 3) && (decide (st = kwWithin) || decide (st = kwExports) || decide (st = kwEndmodule) || decide (st = kwEndtimed)))) ∧ Below w.heap.size w w'
  rw [← beqEq, ← beqEq, ← beqEq, ← beqEq]
  unfold kwWithin kwExports kwEndmodule kwEndtimed
  by_cases hk : kd = 3
  · have g0 : (kd != 3) = false := by simp [hk]
    rw [decide_eq_true hk]
    clear hk
    cases d1 : (st == [119, 105, 116, 104, 105, 110])
    · cases d2 : (st == [101, 120, 112, 111, 114, 116, 115])
      · cases d3 : (st == [101, 110, 100, 109, 111, 100, 117, 108, 101])
        · cases d4 : (st == [101, 110, 100, 116, 105, 109, 101, 100])
          all_goals
            go_enter Tryd.func101, Tryd.ntmps101
            go_wp2
            go_ret
            exact ⟨rfl, (Below.refl _ _).alloc (Nat.le_refl _) _⟩
        · go_enter Tryd.func101, Tryd.ntmps101
          go_wp2
          go_ret
          exact ⟨rfl, (Below.refl _ _).alloc (Nat.le_refl _) _⟩
      · go_enter Tryd.func101, Tryd.ntmps101
        go_wp2
        go_ret
        exact ⟨rfl, (Below.refl _ _).alloc (Nat.le_refl _) _⟩
    · go_enter Tryd.func101, Tryd.ntmps101
      go_wp2
      go_ret
      exact ⟨rfl, (Below.refl _ _).alloc (Nat.le_refl _) _⟩
  · have g0 : (kd != 3) = true := by simp [hk]
    rw [decide_eq_false hk]
    clear hk
    go_enter Tryd.func101, Tryd.ntmps101
    go_wp2
    go_ret
    exact ⟨rfl, (Below.refl _ _).alloc (Nat.le_refl _) _⟩

set_option maxHeartbeats 1000000 in
theorem after_any (w : World) (p q : Int × Int) :
    Calls Tryd.prog 86 #[posV p.1 p.2, posV q.1 q.2] w fun e w' => e = .returned (.bool (isAft p q)) ∧ Below w.heap.size w w' := by
  obtain ⟨a, b⟩ := p
  obtain ⟨c, d⟩ := q
  go_enter Tryd.func86, Tryd.ntmps86
  go_wp2
  all_goals
    go_ret
    exact ⟨ret_bool (by unfold isAft; rw [Bool.eq_iff_iff]; simp; omega), ((Below.refl _ _).alloc (Nat.le_refl _) _).alloc (by simp) _⟩

theorem BAt.below {w w' : World} {Pr : Nat → Prop} {g : Nat} {s : LSt} {vt vc : Value} (h : BAt w Pr g s vt vc) (hb : Below w.heap.size w w') : BAt w' Pr g s vt vc :=
  ⟨(hb.block _ h.blk.lt).trans h.blk, owns_below h.rt hb, owns_below h.rc hb, h.ng, h.nt, h.nc, fun k hk => Nat.lt_of_lt_of_le (h.lt k hk) hb.size⟩
theorem BSt.below {w w' : World} {Pr : Nat → Prop} {g : Nat} {s : LSt} (h : BSt w Pr g s) (hb : Below w.heap.size w w') : BSt w' Pr g s := by
  obtain ⟨vt, vc, h⟩ := h
  exact ⟨vt, vc, h.below hb⟩
/-- the protected blocks and one more -/
abbrev orOne (Pr : Nat → Prop) (b : Nat) : Nat → Prop := fun k => Pr k ∨ k = b
abbrev tokObj (t : TR) (a b : Int) : Obj := .cells #[.int .i64 t.kind, .int .i64 t.num, .string (S t.str), .int .i64 a, .int .i64 b] 25 (0, 0)
theorem keep_box {w w1 : World} {Pr : Nat → Prop} (hl : ∀ k, Pr k → k < w.heap.size) {o : Obj} (h : Keep (orOne Pr w.heap.size) (w.alloc o) w1) : Keep Pr w w1 :=
  ((Keep.refl Pr w).alloc hl o).trans (h.mono fun _ hk => .inl hk)
theorem box_cell {w w1 : World} {Pr : Nat → Prop} {cs : Array Value} {t : TypeId} (h : Keep (orOne Pr w.heap.size) (w.alloc (.cells cs t)) w1) (i : Nat) : w1.cell? ⟨w.heap.size, i, none⟩ = cs[i]? :=
  (h.cell (.inr rfl) i).trans (cell_of_row _ _ i _ _ _ (heap_alloc_new w _))

def BegPost (w : World) (Pr : Nat → Prop) (g : Nat) (s : LSt) (r : Int × List Tok × List Int) (e : Ending) (w' : World) : Prop :=
  e = .returned (.int .i64 r.1) ∧ BSt w' Pr g { s with out := r.2.1, cols := r.2.2 } ∧ Keep Pr w w'

set_option maxRecDepth 100000 in
set_option maxHeartbeats 3200000 in
theorem begin_any (w : World) (Pr : Nat → Prop) (g : Nat) (s : LSt) (t : TR) (a b x : Int) (r : List Int) (h : BSt w Pr g s) (hc : s.cols = x :: r) (hn : s.out.length ≤ 999999999) (hm : r.length ≤ 999999999) :
    Calls Tryd.prog 88 #[.pointer (some ⟨g, 0, none⟩), tkV t a b] w (BegPost w Pr g s (begL s.out s.cols (t, (a, b)))) := by
  have hB0 := h.more (.cells #[.int .i64 t.kind, .int .i64 t.num, .string (S t.str), .int .i64 a, .int .i64 b] 25)
  have HB0 := Lib.hid hB0
  have HL := Lib.hid h.lt
  have HC := Lib.hid hc
  have HCL := Lib.hid (fun W => closer_any W t a b)
  have hR : Hid (begL s.out s.cols (t, (a, b)) = if closB t = true then (0, s.out ++ [mkT 5 (a, b), mkT 7 (a, b)], s.cols)
      else if b ≤ x then (3, s.out, s.cols) else if r.length + 1 = 64 then (10, s.out, s.cols) else (0, s.out ++ [mkT 5 (a, b)], b :: s.cols)) := by
    unfold Hid begL; rw [hc]; rfl
  generalize begL s.out s.cols (t, (a, b)) = R at *
  generalize closB t = cl at *
  clear h hc hB0
  cases cl
  · rw [if_neg (by decide)] at hR
    have key : ∀ d1 d2 : Bool, decide (b ≤ x) = d1 → decide (((r.length + 1 : Nat) : Int) = 64) = d2 →
        Calls Tryd.prog 88 #[.pointer (some ⟨g, 0, none⟩), tkV t a b] w (BegPost w Pr g s R) := by
      intro d1 d2 hd1 hd2
      have hd3 : ((((r.length + 1 : Nat) : Int)) == 64) = d2 := by rw [← hd2]; rfl
      cases d1
      · have g1 : x < b := by simpa using hd1
        rw [if_neg (by omega)] at hR
        cases d2
        · have g2 : ¬ r.length + 1 = 64 := by intro q; rw [q] at hd2; exact absurd hd2 (by decide)
          rw [if_neg g2] at hR
          clear hd1 hd2 g2
          go_enter Tryd.func88, Tryd.ntmps88
          go_wp2_with fail
          refine (HCL.out _).mono ?_
          rintro e w1 ⟨rfl, hb1⟩
          have HB1 := Lib.hid (HB0.out.below hb1)
          have HK1 : Hid (Keep (orOne Pr w.heap.size) (w.alloc (.cells #[.int .i64 t.kind, .int .i64 t.num, .string (S t.str), .int .i64 a, .int .i64 b] 25)) w1) := Keep.below hb1 HB0.out.lt
          have k3 : w1.cell? ⟨w.heap.size, 3, none⟩ = some (.int .i64 a) := box_cell HK1.out 3
          have k4 : w1.cell? ⟨w.heap.size, 4, none⟩ = some (.int .i64 b) := box_cell HK1.out 4
          have HCO := Lib.hid (fun n => column_any (w1.drewN n) (orOne Pr w.heap.size) g s x r (HB1.out.drewN n) HC.out (by omega))
          obtain ⟨vt, vc, hBA⟩ := HB1.out
          obtain ⟨gc, cap, rfl, _, _, _⟩ := hBA.cform HC.out
          have k5 : w1.cell? ⟨g, 1, none⟩ = some (.slice (some ⟨gc, 0, none⟩) (r.length + 1 : Nat) cap) := hBA.blk.cell 1
          clear hb1 hBA
          go_wp2_with fail
          go_quiet ((go_at_call 102; exact Calls.quiet_of (HCO.out _)))
          go_wp2_with fail
          refine (open_any _ _ g s a b (HB1.out.drewN _) (by omega) (by rw [HC.out]; simp; omega)).mono ?_
          rintro e w2 ⟨rfl, hB2, hK2⟩
          have HB2 := Lib.hid hB2
          have HK2 := Lib.hid hK2
          clear hB2 hK2
          go_wp2
          go_ret
          rw [hR.out]
          exact ⟨rfl, HB2.out.mono (fun k hk => .inl hk), keep_box HL.out ((HK1.out.drewN _).trans HK2.out)⟩
        · have g2 : r.length + 1 = 64 := by have := of_decide_eq_true hd2; omega
          rw [if_pos g2] at hR
          clear hd1 hd2
          go_enter Tryd.func88, Tryd.ntmps88
          go_wp2_with fail
          refine (HCL.out _).mono ?_
          rintro e w1 ⟨rfl, hb1⟩
          have HB1 := Lib.hid (HB0.out.below hb1)
          have HK1 : Hid (Keep (orOne Pr w.heap.size) (w.alloc (.cells #[.int .i64 t.kind, .int .i64 t.num, .string (S t.str), .int .i64 a, .int .i64 b] 25)) w1) := Keep.below hb1 HB0.out.lt
          have k3 : w1.cell? ⟨w.heap.size, 3, none⟩ = some (.int .i64 a) := box_cell HK1.out 3
          have k4 : w1.cell? ⟨w.heap.size, 4, none⟩ = some (.int .i64 b) := box_cell HK1.out 4
          have HCO := Lib.hid (fun n => column_any (w1.drewN n) (orOne Pr w.heap.size) g s x r (HB1.out.drewN n) HC.out (by omega))
          obtain ⟨vt, vc, hBA⟩ := HB1.out
          obtain ⟨gc, cap, rfl, _, _, _⟩ := hBA.cform HC.out
          have k5 : w1.cell? ⟨g, 1, none⟩ = some (.slice (some ⟨gc, 0, none⟩) (r.length + 1 : Nat) cap) := hBA.blk.cell 1
          have HG2 := Lib.hid g2
          clear hb1 hBA g2
          go_wp2_with fail
          go_quiet ((go_at_call 102; exact Calls.quiet_of (HCO.out _)))
          go_wp2
          go_ret
          rw [hR.out]
          exact ⟨rfl, (HB1.out.drewN _).mono (fun k hk => .inl hk), keep_box HL.out (HK1.out.drewN _)⟩
      · have g1 : b ≤ x := of_decide_eq_true hd1
        rw [if_pos g1] at hR
        clear hd1 hd2 hd3
        go_enter Tryd.func88, Tryd.ntmps88
        go_wp2_with fail
        refine (HCL.out _).mono ?_
        rintro e w1 ⟨rfl, hb1⟩
        have HB1 := Lib.hid (HB0.out.below hb1)
        have HK1 : Hid (Keep (orOne Pr w.heap.size) (w.alloc (.cells #[.int .i64 t.kind, .int .i64 t.num, .string (S t.str), .int .i64 a, .int .i64 b] 25)) w1) := Keep.below hb1 HB0.out.lt
        have k3 : w1.cell? ⟨w.heap.size, 3, none⟩ = some (.int .i64 a) := box_cell HK1.out 3
        have k4 : w1.cell? ⟨w.heap.size, 4, none⟩ = some (.int .i64 b) := box_cell HK1.out 4
        have HCO := Lib.hid (fun n => column_any (w1.drewN n) (orOne Pr w.heap.size) g s x r (HB1.out.drewN n) HC.out (by omega))
        clear hb1
        go_wp2_with fail
        go_quiet ((go_at_call 102; exact Calls.quiet_of (HCO.out _)))
        go_wp2
        go_ret
        rw [hR.out]
        exact ⟨rfl, (HB1.out.drewN _).mono (fun k hk => .inl hk), keep_box HL.out (HK1.out.drewN _)⟩
    exact key _ _ rfl rfl
  · rw [if_pos rfl] at hR
    go_enter Tryd.func88, Tryd.ntmps88
    go_wp2_with fail
    refine (HCL.out _).mono ?_
    rintro e w1 ⟨rfl, hb1⟩
    have HB1 := Lib.hid (HB0.out.below hb1)
    have HK1 : Hid (Keep (orOne Pr w.heap.size) (w.alloc (.cells #[.int .i64 t.kind, .int .i64 t.num, .string (S t.str), .int .i64 a, .int .i64 b] 25)) w1) := Keep.below hb1 HB0.out.lt
    have k3 : w1.cell? ⟨w.heap.size, 3, none⟩ = some (.int .i64 a) := box_cell HK1.out 3
    have k4 : w1.cell? ⟨w.heap.size, 4, none⟩ = some (.int .i64 b) := box_cell HK1.out 4
    clear hb1
    go_wp2_with fail
    refine (open_any _ _ g s a b HB1.out (by omega) (by rw [HC.out]; simp; omega)).mono ?_
    rintro e w2 ⟨rfl, hB2, hK2⟩
    have HB2 := Lib.hid hB2
    have HK2 := Lib.hid (HK1.out.trans hK2)
    have k3 : w2.cell? ⟨w.heap.size, 3, none⟩ = some (.int .i64 a) := box_cell HK2.out 3
    have k4 : w2.cell? ⟨w.heap.size, 4, none⟩ = some (.int .i64 b) := box_cell HK2.out 4
    clear hB2 hK2
    go_wp2_with fail
    refine (close_any _ _ g _ a b b s.cols HB2.out rfl (by simp; omega) (by rw [HC.out]; simp; omega)).mono ?_
    rintro e w3 ⟨rfl, hB3, hK3⟩
    have HB3 := Lib.hid hB3
    have HK3 := Lib.hid (HK2.out.trans hK3)
    clear hB3 hK3
    go_wp2
    go_ret
    rw [hR.out]
    refine ⟨rfl, ?_, keep_box HL.out HK3.out⟩
    have := HB3.out.mono (Pr' := Pr) (fun k hk => .inl hk)
    simpa using this

end Go.Proofs.YtbegenmhfmpgpaaDoor
