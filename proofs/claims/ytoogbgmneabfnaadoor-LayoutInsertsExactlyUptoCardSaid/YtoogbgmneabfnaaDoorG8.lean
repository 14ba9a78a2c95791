/- The program's isCloser, isAfter, begin and proceed: the blocks that a token opens and closes. Condition: fewer than a thousand million tokens and blocks. The reference's inserter of Insert: put, close and top move the state that the model says (its last position apart). Condition: fewer than a thousand million tokens and blocks. -/
import Derived.Test.YtoogbgmneabfnaaDoorG7
import Derived.Deep.RegionHeld3
import Derived.Deep.RegionLaw
import Derived.Deep.AppendLies
import Derived.Deep.QuietTactic
import Derived.BigQuiet
namespace Go.Proofs.YtoogbgmneabfnaaDoor
open Go.RowKit M

/-- a token's value -/
abbrev tkV (t : TR) (a b : Int) : Value := .agg #[.int .i64 t.kind, .int .i64 t.num, .string (S t.str), .int .i64 a, .int .i64 b]
theorem beqEq (l k : Bs) : (l == k) = decide (l = k) := by
  by_cases h : l = k
  · rw [decide_eq_true h]; exact beq_iff_eq.2 h
  · rw [decide_eq_false h]; exact beq_eq_false_iff_ne.2 h

set_option maxHeartbeats 2000000 in
theorem closer_any (w : World) (t : TR) (a b : Int) :
    Calls Tryd.prog 52 #[tkV t a b] w fun e w' => e = .returned (.bool (closB t)) ∧ Below w.heap.size w w' := by
  obtain ⟨kd, nu, st, er⟩ := t
  show Calls _ _ #[.agg #[.int .i64 kd, .int .i64 nu, .string (S st), .int .i64 a, .int .i64 b]] _ fun e w' => e = .returned (.bool (decide (kd = 3) && (decide (st = kwWithin) || decide (st = kwExports) || decide (st = kwEndmodule) || decide (st = kwEndtimed)))) ∧ Below w.heap.size w w'
  rw [← beqEq, ← beqEq, ← beqEq, ← beqEq]
  unfold kwWithin kwExports kwEndmodule kwEndtimed
  by_cases hk : kd = 3
  · have g0 : (kd != 3) = false := by simp [hk]
    rw [decide_eq_true hk]
    clear hk
    cases d1 : (st == [119, 105, 116, 104, 105, 110])
    · cases d2 : (st == [101, 120, 112, 111, 114, 116, 115])
      · cases d3 : (st == [101, 110, 100, 109, 111, 100, 117, 108, 101])
        · cases d4 : (st == [101, 110, 100, 116, 105, 109, 101, 100])
          all_goals
            go_enter Tryd.func52, Tryd.ntmps52
            go_wp2
            go_ret
            exact ⟨rfl, (Below.refl _ _).alloc (Nat.le_refl _) _⟩
        · go_enter Tryd.func52, Tryd.ntmps52
          go_wp2
          go_ret
          exact ⟨rfl, (Below.refl _ _).alloc (Nat.le_refl _) _⟩
      · go_enter Tryd.func52, Tryd.ntmps52
        go_wp2
        go_ret
        exact ⟨rfl, (Below.refl _ _).alloc (Nat.le_refl _) _⟩
    · go_enter Tryd.func52, Tryd.ntmps52
      go_wp2
      go_ret
      exact ⟨rfl, (Below.refl _ _).alloc (Nat.le_refl _) _⟩
  · have g0 : (kd != 3) = true := by simp [hk]
    rw [decide_eq_false hk]
    clear hk
    go_enter Tryd.func52, Tryd.ntmps52
    go_wp2
    go_ret
    exact ⟨rfl, (Below.refl _ _).alloc (Nat.le_refl _) _⟩

set_option maxHeartbeats 1000000 in
theorem after_any (w : World) (p q : Int × Int) :
    Calls Tryd.prog 32 #[posV p.1 p.2, posV q.1 q.2] w fun e w' => e = .returned (.bool (isAft p q)) ∧ Below w.heap.size w w' := by
  obtain ⟨a, b⟩ := p
  obtain ⟨c, d⟩ := q
  go_enter Tryd.func32, Tryd.ntmps32
  go_wp2
  all_goals
    go_ret
    exact ⟨ret_bool (by unfold isAft; rw [Bool.eq_iff_iff]; simp; omega), ((Below.refl _ _).alloc (Nat.le_refl _) _).alloc (by simp) _⟩

theorem BAt.below {w w' : World} {Pr : Nat → Prop} {g : Nat} {s : LSt} {vt vc : Value} (h : BAt w Pr g s vt vc) (hb : Below w.heap.size w w') : BAt w' Pr g s vt vc :=
  ⟨(hb.block _ h.blk.lt).trans h.blk, owns_below h.rt hb, owns_below h.rc hb, h.ng, h.nt, h.nc, fun k hk => Nat.lt_of_lt_of_le (h.lt k hk) hb.size⟩
theorem BSt.below {w w' : World} {Pr : Nat → Prop} {g : Nat} {s : LSt} (h : BSt w Pr g s) (hb : Below w.heap.size w w') : BSt w' Pr g s := by
  obtain ⟨vt, vc, h⟩ := h
  exact ⟨vt, vc, h.below hb⟩
/-- the protected blocks and one more -/
abbrev orOne (Pr : Nat → Prop) (b : Nat) : Nat → Prop := fun k => Pr k ∨ k = b
abbrev tokObj (t : TR) (a b : Int) : Obj := .cells #[.int .i64 t.kind, .int .i64 t.num, .string (S t.str), .int .i64 a, .int .i64 b] 37 (0, 0)
theorem keep_box {w w1 : World} {Pr : Nat → Prop} (hl : ∀ k, Pr k → k < w.heap.size) {o : Obj} (h : Keep (orOne Pr w.heap.size) (w.alloc o) w1) : Keep Pr w w1 :=
  ((Keep.refl Pr w).alloc hl o).trans (h.mono fun _ hk => .inl hk)
theorem box_cell {w w1 : World} {Pr : Nat → Prop} {cs : Array Value} {t : TypeId} (h : Keep (orOne Pr w.heap.size) (w.alloc (.cells cs t)) w1) (i : Nat) : w1.cell? ⟨w.heap.size, i, none⟩ = cs[i]? :=
  (h.cell (.inr rfl) i).trans (cell_of_row _ _ i _ _ _ (heap_alloc_new w _))

def BegPost (w : World) (Pr : Nat → Prop) (g : Nat) (s : LSt) (r : Int × List Tok × List Int) (e : Ending) (w' : World) : Prop :=
  e = .returned (.int .i64 r.1) ∧ BSt w' Pr g { s with out := r.2.1, cols := r.2.2 } ∧ Keep Pr w w'

set_option maxRecDepth 100000 in
set_option maxHeartbeats 3200000 in
theorem begin_any (w : World) (Pr : Nat → Prop) (g : Nat) (s : LSt) (t : TR) (a b x : Int) (r : List Int) (h : BSt w Pr g s) (hc : s.cols = x :: r) (hn : s.out.length ≤ 999999999) (hm : r.length ≤ 999999999) :
    Calls Tryd.prog 34 #[.pointer (some ⟨g, 0, none⟩), tkV t a b] w (BegPost w Pr g s (begL s.out s.cols (t, (a, b)))) := by
  have hB0 := h.more (.cells #[.int .i64 t.kind, .int .i64 t.num, .string (S t.str), .int .i64 a, .int .i64 b] 37)
  have HB0 := Lib.hid hB0
  have HL := Lib.hid h.lt
  have HC := Lib.hid hc
  have HCL := Lib.hid (fun W => closer_any W t a b)
  have hR : Hid (begL s.out s.cols (t, (a, b)) = if closB t = true then (0, s.out ++ [mkT 5 (a, b), mkT 7 (a, b)], s.cols)
      else if b ≤ x then (3, s.out, s.cols) else if r.length + 1 = 64 then (10, s.out, s.cols) else (0, s.out ++ [mkT 5 (a, b)], b :: s.cols)) := by
    unfold Hid begL; rw [hc]; rfl
  generalize begL s.out s.cols (t, (a, b)) = R at *
  generalize closB t = cl at *
  clear h hc hB0
  cases cl
  · rw [if_neg (by decide)] at hR
    have key : ∀ d1 d2 : Bool, decide (b ≤ x) = d1 → decide (((r.length + 1 : Nat) : Int) = 64) = d2 →
        Calls Tryd.prog 34 #[.pointer (some ⟨g, 0, none⟩), tkV t a b] w (BegPost w Pr g s R) := by
      intro d1 d2 hd1 hd2
      have hd3 : ((((r.length + 1 : Nat) : Int)) == 64) = d2 := by rw [← hd2]; rfl
      cases d1
      · have g1 : x < b := by simpa using hd1
        rw [if_neg (by omega)] at hR
        cases d2
        · have g2 : ¬ r.length + 1 = 64 := by intro q; rw [q] at hd2; exact absurd hd2 (by decide)
          rw [if_neg g2] at hR
          clear hd1 hd2 g2
          go_enter Tryd.func34, Tryd.ntmps34
          go_wp2_with fail
          refine (HCL.out _).mono ?_
          rintro e w1 ⟨rfl, hb1⟩
          have HB1 := Lib.hid (HB0.out.below hb1)
          have HK1 : Hid (Keep (orOne Pr w.heap.size) (w.alloc (.cells #[.int .i64 t.kind, .int .i64 t.num, .string (S t.str), .int .i64 a, .int .i64 b] 37)) w1) := Keep.below hb1 HB0.out.lt
          have k3 : w1.cell? ⟨w.heap.size, 3, none⟩ = some (.int .i64 a) := box_cell HK1.out 3
          have k4 : w1.cell? ⟨w.heap.size, 4, none⟩ = some (.int .i64 b) := box_cell HK1.out 4
          have HCO := Lib.hid (fun n => column_any (w1.drewN n) (orOne Pr w.heap.size) g s x r (HB1.out.drewN n) HC.out (by omega))
          obtain ⟨vt, vc, hBA⟩ := HB1.out
          obtain ⟨gc, cap, rfl, _, _, _⟩ := hBA.cform HC.out
          have k5 : w1.cell? ⟨g, 1, none⟩ = some (.slice (some ⟨gc, 0, none⟩) (r.length + 1 : Nat) cap) := hBA.blk.cell 1
          clear hb1 hBA
          go_wp2_with fail
          go_quiet ((go_at_call 53; exact Calls.quiet_of (HCO.out _)))
          go_wp2_with fail
          refine (open_any _ _ g s a b (HB1.out.drewN _) (by omega) (by rw [HC.out]; simp; omega)).mono ?_
          rintro e w2 ⟨rfl, hB2, hK2⟩
          have HB2 := Lib.hid hB2
          have HK2 := Lib.hid hK2
          clear hB2 hK2
          go_wp2
          go_ret
          rw [hR.out]
          exact ⟨rfl, HB2.out.mono (fun k hk => .inl hk), keep_box HL.out ((HK1.out.drewN _).trans HK2.out)⟩
        · have g2 : r.length + 1 = 64 := by have := of_decide_eq_true hd2; omega
          rw [if_pos g2] at hR
          clear hd1 hd2
          go_enter Tryd.func34, Tryd.ntmps34
          go_wp2_with fail
          refine (HCL.out _).mono ?_
          rintro e w1 ⟨rfl, hb1⟩
          have HB1 := Lib.hid (HB0.out.below hb1)
          have HK1 : Hid (Keep (orOne Pr w.heap.size) (w.alloc (.cells #[.int .i64 t.kind, .int .i64 t.num, .string (S t.str), .int .i64 a, .int .i64 b] 37)) w1) := Keep.below hb1 HB0.out.lt
          have k3 : w1.cell? ⟨w.heap.size, 3, none⟩ = some (.int .i64 a) := box_cell HK1.out 3
          have k4 : w1.cell? ⟨w.heap.size, 4, none⟩ = some (.int .i64 b) := box_cell HK1.out 4
          have HCO := Lib.hid (fun n => column_any (w1.drewN n) (orOne Pr w.heap.size) g s x r (HB1.out.drewN n) HC.out (by omega))
          obtain ⟨vt, vc, hBA⟩ := HB1.out
          obtain ⟨gc, cap, rfl, _, _, _⟩ := hBA.cform HC.out
          have k5 : w1.cell? ⟨g, 1, none⟩ = some (.slice (some ⟨gc, 0, none⟩) (r.length + 1 : Nat) cap) := hBA.blk.cell 1
          have HG2 := Lib.hid g2
          clear hb1 hBA g2
          go_wp2_with fail
          go_quiet ((go_at_call 53; exact Calls.quiet_of (HCO.out _)))
          go_wp2
          go_ret
          rw [hR.out]
          exact ⟨rfl, (HB1.out.drewN _).mono (fun k hk => .inl hk), keep_box HL.out (HK1.out.drewN _)⟩
      · have g1 : b ≤ x := of_decide_eq_true hd1
        rw [if_pos g1] at hR
        clear hd1 hd2 hd3
        go_enter Tryd.func34, Tryd.ntmps34
        go_wp2_with fail
        refine (HCL.out _).mono ?_
        rintro e w1 ⟨rfl, hb1⟩
        have HB1 := Lib.hid (HB0.out.below hb1)
        have HK1 : Hid (Keep (orOne Pr w.heap.size) (w.alloc (.cells #[.int .i64 t.kind, .int .i64 t.num, .string (S t.str), .int .i64 a, .int .i64 b] 37)) w1) := Keep.below hb1 HB0.out.lt
        have k3 : w1.cell? ⟨w.heap.size, 3, none⟩ = some (.int .i64 a) := box_cell HK1.out 3
        have k4 : w1.cell? ⟨w.heap.size, 4, none⟩ = some (.int .i64 b) := box_cell HK1.out 4
        have HCO := Lib.hid (fun n => column_any (w1.drewN n) (orOne Pr w.heap.size) g s x r (HB1.out.drewN n) HC.out (by omega))
        clear hb1
        go_wp2_with fail
        go_quiet ((go_at_call 53; exact Calls.quiet_of (HCO.out _)))
        go_wp2
        go_ret
        rw [hR.out]
        exact ⟨rfl, (HB1.out.drewN _).mono (fun k hk => .inl hk), keep_box HL.out (HK1.out.drewN _)⟩
    exact key _ _ rfl rfl
  · rw [if_pos rfl] at hR
    go_enter Tryd.func34, Tryd.ntmps34
    go_wp2_with fail
    refine (HCL.out _).mono ?_
    rintro e w1 ⟨rfl, hb1⟩
    have HB1 := Lib.hid (HB0.out.below hb1)
    have HK1 : Hid (Keep (orOne Pr w.heap.size) (w.alloc (.cells #[.int .i64 t.kind, .int .i64 t.num, .string (S t.str), .int .i64 a, .int .i64 b] 37)) w1) := Keep.below hb1 HB0.out.lt
    have k3 : w1.cell? ⟨w.heap.size, 3, none⟩ = some (.int .i64 a) := box_cell HK1.out 3
    have k4 : w1.cell? ⟨w.heap.size, 4, none⟩ = some (.int .i64 b) := box_cell HK1.out 4
    clear hb1
    go_wp2_with fail
    refine (open_any _ _ g s a b HB1.out (by omega) (by rw [HC.out]; simp; omega)).mono ?_
    rintro e w2 ⟨rfl, hB2, hK2⟩
    have HB2 := Lib.hid hB2
    have HK2 := Lib.hid (HK1.out.trans hK2)
    have k3 : w2.cell? ⟨w.heap.size, 3, none⟩ = some (.int .i64 a) := box_cell HK2.out 3
    have k4 : w2.cell? ⟨w.heap.size, 4, none⟩ = some (.int .i64 b) := box_cell HK2.out 4
    clear hB2 hK2
    go_wp2_with fail
    refine (close_any _ _ g _ a b b s.cols HB2.out rfl (by simp; omega) (by rw [HC.out]; simp; omega)).mono ?_
    rintro e w3 ⟨rfl, hB3, hK3⟩
    have HB3 := Lib.hid hB3
    have HK3 := Lib.hid (HK2.out.trans hK3)
    clear hB3 hK3
    go_wp2
    go_ret
    rw [hR.out]
    refine ⟨rfl, ?_, keep_box HL.out HK3.out⟩
    have := HB3.out.mono (Pr' := Pr) (fun k hk => .inl hk)
    simpa using this

end Go.Proofs.YtoogbgmneabfnaaDoor

namespace Go.Proofs.YtoogbgmneabfnaaDoor
open Go.RowKit M

abbrev rCells (vt vc : Value) (it li : Int × Int) : Array Value := #[vt, vc, .int .i64 it.1, .int .i64 it.2, .int .i64 li.1, .int .i64 li.2]
/-- block g is the inserter of state s: its tokens vt, its columns vc; no block of Pr is the state's own -/
structure RAt (w : World) (Pr : Nat → Prop) (g : Nat) (s : LSt) (vt vc : Value) : Prop where
  blk : Blk w g 51 (rCells vt vc s.item s.line)
  rt : w.ownsRow 0 37 5 vt s.out.length (toksCells s.out)
  rc : w.ownsRow 0 3 1 vc s.cols.length (colCells s.cols)
  ng : ¬ Pr g
  nt : ∀ k, vt.ownBlock = some k → ¬ Pr k
  nc : ∀ k, vc.ownBlock = some k → ¬ Pr k
  lt : ∀ k, Pr k → k < w.heap.size
def RSt (w : World) (Pr : Nat → Prop) (g : Nat) (s : LSt) : Prop := ∃ vt vc, RAt w Pr g s vt vc
/-- a method without results: the state s' behind it, the blocks of Pr as they were -/
def RPost (w : World) (Pr : Nat → Prop) (g : Nat) (s' : LSt) (e : Ending) (w' : World) : Prop := e = .returned (.tuple #[]) ∧ RSt w' Pr g s' ∧ Keep Pr w w'

section
variable {w w' : World} {Pr Pr' : Nat → Prop} {g : Nat} {s : LSt} {vt vc : Value}
theorem RAt.gt (h : RAt w Pr g s vt vc) : vt.ownBlock ≠ some g := own_blk_ne h.rt h.blk (by decide)
theorem RAt.gc (h : RAt w Pr g s vt vc) : vc.ownBlock ≠ some g := own_blk_ne h.rc h.blk (by decide)
theorem RAt.tc (h : RAt w Pr g s vt vc) : ∀ k, vt.ownBlock = some k → vc.ownBlock ≠ some k := own_own_ne h.rt h.rc (by decide)
theorem RAt.alloc (h : RAt w Pr g s vt vc) (o : Obj) : RAt (w.alloc o) Pr g s vt vc :=
  ⟨h.blk.alloc o, h.rt.alloc o, h.rc.alloc o, h.ng, h.nt, h.nc, fun k hk => Nat.lt_of_lt_of_le (h.lt k hk) (by simp)⟩
theorem RAt.drew (h : RAt w Pr g s vt vc) : RAt w.drew Pr g s vt vc := ⟨h.blk, h.rt, h.rc, h.ng, h.nt, h.nc, h.lt⟩
theorem RAt.drewN (h : RAt w Pr g s vt vc) (n : Nat) : RAt (w.drewN n) Pr g s vt vc := ⟨h.blk, h.rt, h.rc, h.ng, h.nt, h.nc, h.lt⟩
theorem RAt.mono (h : RAt w Pr g s vt vc) (hp : ∀ k, Pr' k → Pr k) : RAt w Pr' g s vt vc :=
  ⟨h.blk, h.rt, h.rc, fun k => h.ng (hp _ k), fun k hk q => h.nt k hk (hp _ q), fun k hk q => h.nc k hk (hp _ q), fun k hk => h.lt k (hp k hk)⟩
/-- one more block is protected: the one that is made now -/
theorem RAt.more (h : RAt w Pr g s vt vc) (o : Obj) : RAt (w.alloc o) (fun k => Pr k ∨ k = w.heap.size) g s vt vc := by
  have h' := h.alloc o
  refine ⟨h'.blk, h'.rt, h'.rc, ?_, ?_, ?_, ?_⟩
  · rintro (q | q)
    · exact h.ng q
    · have := h.blk.lt; omega
  · rintro k hk (q | q)
    · exact h.nt k hk q
    · have := (h.rt.lt k hk).2; omega
  · rintro k hk (q | q)
    · exact h.nc k hk q
    · have := (h.rc.lt k hk).2; omega
  · rintro k (q | q)
    · exact h'.lt k q
    · simp; omega
end
/-- what is left behind b.tokens = append(b.tokens, t) -/
theorem rpush_end {w w1 : World} {Pr : Nat → Prop} {g : Nat} {s : LSt} {vt vc : Value} (hD : RAt w Pr g s vt vc) (t : Tok) {gg cap : Nat}
    (hown1 : w1.ownsRow 0 37 5 (.slice (some ⟨gg, 0, none⟩) (s.out.length + 1) cap) (s.out.length + 1) (toksCells s.out ++ tokCells t))
    (hgrow : w.grownBy w1 vt.ownBlock) (hat : vt.ownBlock = some gg ∨ w.heap.size ≤ gg) :
    RSt (w1.setCell ⟨g, 0, none⟩ (.slice (some ⟨gg, 0, none⟩) (s.out.length + 1) cap)) Pr g { s with out := s.out ++ [t] } ∧
      Keep Pr w (w1.setCell ⟨g, 0, none⟩ (.slice (some ⟨gg, 0, none⟩) (s.out.length + 1) cap)) := by
  refine ⟨⟨.slice (some ⟨gg, 0, none⟩) (s.out.length + 1) cap, vc, ?_⟩, ?_⟩
  · have hb1 := hD.blk.grown hgrow (Ne.symm hD.gt)
    have hc1 := owns_other hD.rc hgrow (fun k hk q => hD.tc k q hk)
    have hne : (Value.slice (some ⟨gg, 0, none⟩) (s.out.length + 1) cap).ownBlock ≠ some g := own_blk_ne hown1 hb1 (by decide)
    have hcg : vc.ownBlock ≠ some g := own_blk_ne hc1 hb1 (by decide)
    refine ⟨hb1.set_ 0 _, ?_, owns_set hc1 hcg _, hD.ng, ?_, hD.nc, ?_⟩
    · show World.ownsRow _ _ _ _ _ (s.out ++ [t]).length (toksCells (s.out ++ [t]))
      rw [List.length_append, ← toks_snoc]
      exact owns_set hown1 hne _
    · intro k hk hp
      have hkg : gg = k := by simpa [Value.ownBlock] using hk
      subst hkg
      rcases hat with q | q
      · exact hD.nt _ q hp
      · have := hD.lt _ hp; omega
    · intro k hk
      have := hD.lt k hk
      have h1 := hgrow.size
      simp [World.setCell] at h1 ⊢
      omega
  · exact ((Keep.refl Pr w).grown hgrow hD.lt hD.nt).setCell (p := ⟨g, 0, none⟩) hD.ng _

set_option maxRecDepth 100000 in
set_option maxHeartbeats 3200000 in
theorem rput_any (w : World) (Pr : Nat → Prop) (g : Nat) (s : LSt) (kd a b : Int) (h : RSt w Pr g s) (hn : s.out.length ≤ 1000000000) :
    Calls Tryd.prog 20 #[.pointer (some ⟨g, 0, none⟩), .int .i64 kd, posV a b] w (RPost w Pr g { s with out := s.out ++ [mkT kd (a, b)] }) := by
  obtain ⟨vt, vc, hB⟩ := h
  obtain ⟨A1, c1, rfl⟩ := owns_form hB.rt
  obtain ⟨i0, hi0, hz0, hz1, hz2⟩ := info_parts token_info
  have k0 : w.cell? ⟨g, 0, none⟩ = some (.slice A1 s.out.length c1) := hB.blk.cell 0
  have kf : w.frozen? ⟨g, 0, none⟩ = false := hB.blk.frozen 0
  have hg : g < w.heap.size := hB.blk.lt
  have ag := hB.gt
  have ap : (Value.slice A1 s.out.length c1).ownBlock ≠ some w.heap.size := own_fresh hB.rt (Nat.le_refl _)
  have HB := Lib.hid hB
  clear hB
  go_enter Tryd.func20, Tryd.ntmps20
  go_wp2_with fail
  go_region_law
    ((refine step_append_lies _ (by rfl) _ _ _ (by rfl) 0 37 i0 _ 5 48 Tryd.underlying22 hi0 hz0 hz1 hz2 rfl (by omega) (.slice A1 s.out.length c1) s.out.length (toksCells s.out) (by rfl) (((HB.out.rt.alloc _).alloc _).drew)
        ⟨w.heap.size + 1, 0, none⟩ 1 1 (tokCells (mkT kd (a, b))) (by rfl) (by rfl) (World.news_of_block (cs := #[.int .i64 kd, .int .i64 0, .string ⟨#[]⟩, .int .i64 a, .int .i64 b]) (t := 37) (fr := (0, 0)) (heap_new2 _ _ _)) (tok_one _)
        (by omega) (by unfold maxLen; omega) (by omega) (by simp) (w.heap.size + 2) (by simp) ?_; intro gg cap w1 hown1 hgrow hat hlt; have hfz : w1.frozen? ⟨g, 0, none⟩ = false := (hgrow.frozen_far ⟨g, 0, none⟩ (by simp; omega) (Ne.symm ag)).trans ((((HB.out.alloc _).alloc _).drew).blk.frozen 0); have hcz : w1.cell? ⟨g, 0, none⟩ = some (.slice A1 s.out.length c1) := (hgrow.cell_far ⟨g, 0, none⟩ (by simp; omega) (Ne.symm ag)).trans ((((HB.out.alloc _).alloc _).drew).blk.cell 0)))
  all_goals
    go_wp2
    go_end0
    have hE := rpush_end ((HB.out.alloc (.cells #[.int .i64 a, .int .i64 b] 29)).alloc (.cells #[.int .i64 kd, .int .i64 0, .string ⟨#[]⟩, .int .i64 a, .int .i64 b] 37)).drew (mkT kd (a, b)) hown1 hgrow (hat.imp id (fun q => by simp; omega))
    exact ⟨rfl, hE.1, ((((Keep.refl Pr w).alloc HB.out.lt _).alloc HB.out.lt _).drew).trans hE.2⟩

/-- what is left behind b.columns = append(b.columns, c) -/
theorem rpushc_end {w w1 : World} {Pr : Nat → Prop} {g : Nat} {s : LSt} {vt vc : Value} (hD : RAt w Pr g s vt vc) (c : Int) {gg cap : Nat}
    (hown1 : w1.ownsRow 0 3 1 (.slice (some ⟨gg, 0, none⟩) (s.cols.length + 1) cap) (s.cols.length + 1) (colCells s.cols ++ [.int .i64 c]))
    (hgrow : w.grownBy w1 vc.ownBlock) (hat : vc.ownBlock = some gg ∨ w.heap.size ≤ gg) :
    RSt (w1.setCell ⟨g, 1, none⟩ (.slice (some ⟨gg, 0, none⟩) (s.cols.length + 1) cap)) Pr g { s with cols := c :: s.cols } ∧
      Keep Pr w (w1.setCell ⟨g, 1, none⟩ (.slice (some ⟨gg, 0, none⟩) (s.cols.length + 1) cap)) := by
  refine ⟨⟨vt, .slice (some ⟨gg, 0, none⟩) (s.cols.length + 1) cap, ?_⟩, ?_⟩
  · have hb1 := hD.blk.grown hgrow (Ne.symm hD.gc)
    have ht1 := owns_other hD.rt hgrow (fun k hk q => hD.tc k hk q)
    have hne : (Value.slice (some ⟨gg, 0, none⟩) (s.cols.length + 1) cap).ownBlock ≠ some g := own_blk_ne hown1 hb1 (by decide)
    have htg : vt.ownBlock ≠ some g := own_blk_ne ht1 hb1 (by decide)
    refine ⟨hb1.set_ 1 _, owns_set ht1 htg _, ?_, hD.ng, hD.nt, ?_, ?_⟩
    · show World.ownsRow _ _ _ _ _ (c :: s.cols).length (colCells (c :: s.cols))
      rw [List.length_cons, ← col_snoc]
      exact owns_set hown1 hne _
    · intro k hk hp
      have hkg : gg = k := by simpa [Value.ownBlock] using hk
      subst hkg
      rcases hat with q | q
      · exact hD.nc _ q hp
      · have := hD.lt _ hp; omega
    · intro k hk
      have := hD.lt k hk
      have h1 := hgrow.size
      simp [World.setCell] at h1 ⊢
      omega
  · exact ((Keep.refl Pr w).grown hgrow hD.lt hD.nc).setCell (p := ⟨g, 1, none⟩) hD.ng _
/-- what is left behind b.columns = b.columns[:len(b.columns)-1] -/
theorem rpopc_end {w : World} {Pr : Nat → Prop} {g : Nat} {s : LSt} {vt : Value} {gc cap : Nat} {x : Int} {r : List Int} (hc : s.cols = x :: r)
    (hD : RAt w Pr g s vt (.slice (some ⟨gc, 0, none⟩) (r.length + 1) cap)) :
    RSt (w.setCell ⟨g, 1, none⟩ (.slice (some ⟨gc, 0, none⟩) r.length cap)) Pr g { s with cols := r } ∧ Keep Pr w (w.setCell ⟨g, 1, none⟩ (.slice (some ⟨gc, 0, none⟩) r.length cap)) := by
  have hrc := hD.rc
  rw [hc] at hrc
  have h1 := owns_take hrc r.length (by simp)
  rw [col_take] at h1
  have hg : (Value.slice (some ⟨gc, 0, none⟩) r.length cap).ownBlock ≠ some g := hD.gc
  refine ⟨⟨vt, .slice (some ⟨gc, 0, none⟩) r.length cap, ?_⟩, (Keep.refl Pr w).setCell (p := ⟨g, 1, none⟩) hD.ng _⟩
  exact ⟨hD.blk.set_ 1 _, owns_set hD.rt hD.gt _, owns_set h1 hg _, hD.ng, hD.nt, hD.nc, fun k hk => by have := hD.lt k hk; simpa [World.setCell] using this⟩
theorem RSt.mono {w : World} {Pr Pr' : Nat → Prop} {g : Nat} {s : LSt} (h : RSt w Pr g s) (hp : ∀ k, Pr' k → Pr k) : RSt w Pr' g s := by
  obtain ⟨vt, vc, h⟩ := h
  exact ⟨vt, vc, h.mono hp⟩
theorem RSt.more {w : World} {Pr : Nat → Prop} {g : Nat} {s : LSt} (h : RSt w Pr g s) (o : Obj) : RSt (w.alloc o) (fun k => Pr k ∨ k = w.heap.size) g s := by
  obtain ⟨vt, vc, h⟩ := h
  exact ⟨vt, vc, h.more o⟩
theorem RSt.alloc {w : World} {Pr : Nat → Prop} {g : Nat} {s : LSt} (h : RSt w Pr g s) (o : Obj) : RSt (w.alloc o) Pr g s := by
  obtain ⟨vt, vc, h⟩ := h
  exact ⟨vt, vc, h.alloc o⟩
theorem RSt.drewN {w : World} {Pr : Nat → Prop} {g : Nat} {s : LSt} (h : RSt w Pr g s) (n : Nat) : RSt (w.drewN n) Pr g s := by
  obtain ⟨vt, vc, h⟩ := h
  exact ⟨vt, vc, h.drewN n⟩
theorem RSt.lt {w : World} {Pr : Nat → Prop} {g : Nat} {s : LSt} (h : RSt w Pr g s) : ∀ k, Pr k → k < w.heap.size := by
  obtain ⟨vt, vc, h⟩ := h
  exact h.lt
/-- the columns' slice where a block is open -/
theorem RAt.cform {w : World} {Pr : Nat → Prop} {g : Nat} {s : LSt} {vt vc : Value} (hD : RAt w Pr g s vt vc) {x : Int} {r : List Int} (hc : s.cols = x :: r) :
    ∃ gc cap, vc = .slice (some ⟨gc, 0, none⟩) (r.length + 1) cap ∧ r.length + 1 ≤ cap ∧ cap ≤ maxLen ∧ w.cell? ⟨gc, r.length, none⟩ = some (.int .i64 x) := by
  have hrc := hD.rc
  rw [hc] at hrc
  have hrc' := hrc
  obtain ⟨_, h⟩ := hrc'
  rcases h with ⟨_, q⟩ | ⟨gc, cap, cur, rfl, _, _, h1, h2, _, _⟩
  · simp at q
  · obtain ⟨g', c', e, _, _, _, hcell⟩ := owns_cell hrc (by simp)
    injection e with e1 e2 e3
    injection e1 with e1
    injection e1 with e1
    subst e1 e3
    exact ⟨_, _, rfl, h1, h2, hcell r.length _ (col_last x r)⟩

theorem RAt.below {w w' : World} {Pr : Nat → Prop} {g : Nat} {s : LSt} {vt vc : Value} (h : RAt w Pr g s vt vc) (hb : Below w.heap.size w w') : RAt w' Pr g s vt vc :=
  ⟨(hb.block _ h.blk.lt).trans h.blk, owns_below h.rt hb, owns_below h.rc hb, h.ng, h.nt, h.nc, fun k hk => Nat.lt_of_lt_of_le (h.lt k hk) hb.size⟩
theorem RSt.below {w w' : World} {Pr : Nat → Prop} {g : Nat} {s : LSt} (h : RSt w Pr g s) (hb : Below w.heap.size w w') : RSt w' Pr g s := by
  obtain ⟨vt, vc, h⟩ := h
  exact ⟨vt, vc, h.below hb⟩
set_option maxRecDepth 100000 in
set_option maxHeartbeats 3200000 in
theorem rclose_any (w : World) (Pr : Nat → Prop) (g : Nat) (s : LSt) (a b x : Int) (r : List Int) (h : RSt w Pr g s) (hc : s.cols = x :: r) (hn : s.out.length ≤ 1000000000) (hm : r.length ≤ 1000000000) :
    Calls Tryd.prog 25 #[.pointer (some ⟨g, 0, none⟩), posV a b] w (RPost w Pr g { s with out := s.out ++ [mkT 7 (a, b)], cols := r }) := by
  have HI := Lib.hid (rput_any _ _ g s 7 a b (h.more (.cells #[.int .i64 a, .int .i64 b] 29)) hn)
  have HL := Lib.hid h.lt
  have HC := Lib.hid hc
  clear h hn hc
  go_enter Tryd.func25, Tryd.ntmps25
  go_wp2_with fail
  refine HI.out.mono ?_
  rintro e w1 ⟨rfl, ⟨vt, vc, hB⟩, hK⟩
  obtain ⟨gc, cap, rfl, hcap, hmax, hcell⟩ := hB.cform HC.out
  unfold maxLen at hmax
  have k0 : w1.cell? ⟨g, 1, none⟩ = some (.slice (some ⟨gc, 0, none⟩) (r.length + 1 : Nat) cap) := hB.blk.cell 1
  have k1 : w1.frozen? ⟨g, 1, none⟩ = false := hB.blk.frozen 1
  have HB := Lib.hid hB
  have HK := Lib.hid hK
  clear hB hK HI hcell
  go_wp2_with fail
  go_region
  all_goals
    go_wp2
    go_end0
    have hE := rpopc_end (s := { s with out := s.out ++ [mkT 7 (a, b)] }) HC.out HB.out.drew
    refine ⟨rfl, hE.1.mono fun k hk => .inl hk, ?_⟩
    have h1 : Keep Pr w (w.alloc (.cells #[.int .i64 a, .int .i64 b] 29)) := (Keep.refl Pr w).alloc HL.out _
    exact h1.trans ((HK.out.drew.trans hE.2).mono (Pr' := Pr) fun k hk => .inl hk)

set_option maxRecDepth 100000 in
set_option maxHeartbeats 3200000 in
theorem rtop_any (w : World) (Pr : Nat → Prop) (g : Nat) (s : LSt) (x : Int) (r : List Int) (h : RSt w Pr g s) (hc : s.cols = x :: r) (hm : r.length ≤ 1000000000) :
    Calls Tryd.prog 43 #[.pointer (some ⟨g, 0, none⟩)] w fun e w' => e = .returned (.int .i64 x) ∧ ∃ m, w' = w.drewN m := by
  obtain ⟨vt, vc, hB⟩ := h
  obtain ⟨gc, cap, rfl, hcap, hmax, hcell⟩ := hB.cform hc
  unfold maxLen at hmax
  have k0 : w.cell? ⟨g, 1, none⟩ = some (.slice (some ⟨gc, 0, none⟩) (r.length + 1 : Nat) cap) := hB.blk.cell 1
  clear hB hc
  have h0 : (0 : Int) ≤ (r.length : Int) := Int.natCast_nonneg _
  go_enter Tryd.func43, Tryd.ntmps43
  go_wp2_with fail
  go_quiet (fail)
  go_wp2
  go_ret
  exact ⟨rfl, _, rfl⟩

end Go.Proofs.YtoogbgmneabfnaaDoor
