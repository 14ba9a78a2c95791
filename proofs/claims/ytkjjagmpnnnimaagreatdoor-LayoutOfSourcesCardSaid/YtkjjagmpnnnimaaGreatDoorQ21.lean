/- The reference's inserter of Insert: put, close and top move the state that the model says (its last position apart). Condition: fewer than a thousand million tokens and blocks. What the offside rule's state keeps from token to token: a bound on its size, the program's block. No program in it. What the reference's Insert keeps from token to token, on the model. No program in it. -/
import Derived.Test.YtkjjagmpnnnimaaGreatDoorQ20
import Derived.Deep.RegionHeld3
import Derived.Deep.RegionLaw
import Derived.Deep.AppendLies
import Derived.Deep.QuietTactic
import Derived.BigQuiet
import Derived.Test.YtkjjagmpnnnimaaGreatDoorQ5
namespace Go.Proofs.YtkjjagmpnnnimaaGreatDoor
open Go.RowKit M

abbrev rCells (vt vc : Value) (it li : Int × Int) : Array Value := #[vt, vc, .int .i64 it.1, .int .i64 it.2, .int .i64 li.1, .int .i64 li.2]
/-- block g is the inserter of state s: its tokens vt, its columns vc; no block of Pr is the state's own -/
structure RAt (w : World) (Pr : Nat → Prop) (g : Nat) (s : LSt) (vt vc : Value) : Prop where
  blk : Blk w g 75 (rCells vt vc s.item s.line)
  rt : w.ownsRow 0 37 5 vt s.out.length (toksCells s.out)
  rc : w.ownsRow 0 3 1 vc s.cols.length (colCells s.cols)
  ng : ¬ Pr g
  nt : ∀ k, vt.ownBlock = some k → ¬ Pr k
  nc : ∀ k, vc.ownBlock = some k → ¬ Pr k
  lt : ∀ k, Pr k → k < w.heap.size
def RSt (w : World) (Pr : Nat → Prop) (g : Nat) (s : LSt) : Prop := ∃ vt vc, RAt w Pr g s vt vc
/-- a method without results: the state s' behind it, the blocks of Pr as they were -/
def RPost (w : World) (Pr : Nat → Prop) (g : Nat) (s' : LSt) (e : Ending) (w' : World) : Prop := e = .returned (.tuple #[]) ∧ RSt w' Pr g s' ∧ Keep Pr w w'

section
variable {w w' : World} {Pr Pr' : Nat → Prop} {g : Nat} {s : LSt} {vt vc : Value}
theorem RAt.gt (h : RAt w Pr g s vt vc) : vt.ownBlock ≠ some g := own_blk_ne h.rt h.blk (by decide)
theorem RAt.gc (h : RAt w Pr g s vt vc) : vc.ownBlock ≠ some g := own_blk_ne h.rc h.blk (by decide)
theorem RAt.tc (h : RAt w Pr g s vt vc) : ∀ k, vt.ownBlock = some k → vc.ownBlock ≠ some k := own_own_ne h.rt h.rc (by decide)
theorem RAt.alloc (h : RAt w Pr g s vt vc) (o : Obj) : RAt (w.alloc o) Pr g s vt vc :=
  ⟨h.blk.alloc o, h.rt.alloc o, h.rc.alloc o, h.ng, h.nt, h.nc, fun k hk => Nat.lt_of_lt_of_le (h.lt k hk) (by simp)⟩
theorem RAt.drew (h : RAt w Pr g s vt vc) : RAt w.drew Pr g s vt vc := ⟨h.blk, h.rt, h.rc, h.ng, h.nt, h.nc, h.lt⟩
theorem RAt.drewN (h : RAt w Pr g s vt vc) (n : Nat) : RAt (w.drewN n) Pr g s vt vc := ⟨h.blk, h.rt, h.rc, h.ng, h.nt, h.nc, h.lt⟩
theorem RAt.mono (h : RAt w Pr g s vt vc) (hp : ∀ k, Pr' k → Pr k) : RAt w Pr' g s vt vc :=
  ⟨h.blk, h.rt, h.rc, fun k => h.ng (hp _ k), fun k hk q => h.nt k hk (hp _ q), fun k hk q => h.nc k hk (hp _ q), fun k hk => h.lt k (hp k hk)⟩
/-- one more block is protected: the one that is made now -/
theorem RAt.more (h : RAt w Pr g s vt vc) (o : Obj) : RAt (w.alloc o) (fun k => Pr k ∨ k = w.heap.size) g s vt vc := by
  have h' := h.alloc o
  refine ⟨h'.blk, h'.rt, h'.rc, ?_, ?_, ?_, ?_⟩
  · rintro (q | q)
    · exact h.ng q
    · have := h.blk.lt; omega
  · rintro k hk (q | q)
    · exact h.nt k hk q
    · have := (h.rt.lt k hk).2; omega
  · rintro k hk (q | q)
    · exact h.nc k hk q
    · have := (h.rc.lt k hk).2; omega
  · rintro k (q | q)
    · exact h'.lt k q
    · simp; omega
end
/-- what is left behind b.tokens = append(b.tokens, t) -/
theorem rpush_end {w w1 : World} {Pr : Nat → Prop} {g : Nat} {s : LSt} {vt vc : Value} (hD : RAt w Pr g s vt vc) (t : Tok) {gg cap : Nat}
    (hown1 : w1.ownsRow 0 37 5 (.slice (some ⟨gg, 0, none⟩) (s.out.length + 1) cap) (s.out.length + 1) (toksCells s.out ++ tokCells t))
    (hgrow : w.grownBy w1 vt.ownBlock) (hat : vt.ownBlock = some gg ∨ w.heap.size ≤ gg) :
    RSt (w1.setCell ⟨g, 0, none⟩ (.slice (some ⟨gg, 0, none⟩) (s.out.length + 1) cap)) Pr g { s with out := s.out ++ [t] } ∧
      Keep Pr w (w1.setCell ⟨g, 0, none⟩ (.slice (some ⟨gg, 0, none⟩) (s.out.length + 1) cap)) := by
  refine ⟨⟨.slice (some ⟨gg, 0, none⟩) (s.out.length + 1) cap, vc, ?_⟩, ?_⟩
  · have hb1 := hD.blk.grown hgrow (Ne.symm hD.gt)
    have hc1 := owns_other hD.rc hgrow (fun k hk q => hD.tc k q hk)
    have hne : (Value.slice (some ⟨gg, 0, none⟩) (s.out.length + 1) cap).ownBlock ≠ some g := own_blk_ne hown1 hb1 (by decide)
    have hcg : vc.ownBlock ≠ some g := own_blk_ne hc1 hb1 (by decide)
    refine ⟨hb1.set_ 0 _, ?_, owns_set hc1 hcg _, hD.ng, ?_, hD.nc, ?_⟩
    · show World.ownsRow _ _ _ _ _ (s.out ++ [t]).length (toksCells (s.out ++ [t]))
      rw [List.length_append, ← toks_snoc]
      exact owns_set hown1 hne _
    · intro k hk hp
      have hkg : gg = k := by simpa [Value.ownBlock] using hk
      subst hkg
      rcases hat with q | q
      · exact hD.nt _ q hp
      · have := hD.lt _ hp; omega
    · intro k hk
      have := hD.lt k hk
      have h1 := hgrow.size
      simp [World.setCell] at h1 ⊢
      omega
  · exact ((Keep.refl Pr w).grown hgrow hD.lt hD.nt).setCell (p := ⟨g, 0, none⟩) hD.ng _

set_option maxRecDepth 100000 in
set_option maxHeartbeats 3200000 in
theorem rput_any (w : World) (Pr : Nat → Prop) (g : Nat) (s : LSt) (kd a b : Int) (h : RSt w Pr g s) (hn : s.out.length ≤ 1000000000) :
    Calls Tryz.prog 49 #[.pointer (some ⟨g, 0, none⟩), .int .i64 kd, posV a b] w (RPost w Pr g { s with out := s.out ++ [mkT kd (a, b)] }) := by
  obtain ⟨vt, vc, hB⟩ := h
  obtain ⟨A1, c1, rfl⟩ := owns_form hB.rt
  obtain ⟨i0, hi0, hz0, hz1, hz2⟩ := info_parts token_info
  have k0 : w.cell? ⟨g, 0, none⟩ = some (.slice A1 s.out.length c1) := hB.blk.cell 0
  have kf : w.frozen? ⟨g, 0, none⟩ = false := hB.blk.frozen 0
  have hg : g < w.heap.size := hB.blk.lt
  have ag := hB.gt
  have ap : (Value.slice A1 s.out.length c1).ownBlock ≠ some w.heap.size := own_fresh hB.rt (Nat.le_refl _)
  have HB := Lib.hid hB
  clear hB
  go_enter Tryz.func49, Tryz.ntmps49
  go_wp2_with fail
  go_region_law
    ((refine step_append_lies _ (by rfl) _ _ _ (by rfl) 0 37 i0 _ 5 48 Tryz.underlying23 hi0 hz0 hz1 hz2 rfl (by omega) (.slice A1 s.out.length c1) s.out.length (toksCells s.out) (by rfl) (((HB.out.rt.alloc _).alloc _).drew)
        ⟨w.heap.size + 1, 0, none⟩ 1 1 (tokCells (mkT kd (a, b))) (by rfl) (by rfl) (World.news_of_block (cs := #[.int .i64 kd, .int .i64 0, .string ⟨#[]⟩, .int .i64 a, .int .i64 b]) (t := 37) (fr := (0, 0)) (heap_new2 _ _ _)) (tok_one _)
        (by omega) (by unfold maxLen; omega) (by omega) (by simp) (w.heap.size + 2) (by simp) ?_; intro gg cap w1 hown1 hgrow hat hlt; have hfz : w1.frozen? ⟨g, 0, none⟩ = false := (hgrow.frozen_far ⟨g, 0, none⟩ (by simp; omega) (Ne.symm ag)).trans ((((HB.out.alloc _).alloc _).drew).blk.frozen 0); have hcz : w1.cell? ⟨g, 0, none⟩ = some (.slice A1 s.out.length c1) := (hgrow.cell_far ⟨g, 0, none⟩ (by simp; omega) (Ne.symm ag)).trans ((((HB.out.alloc _).alloc _).drew).blk.cell 0)))
  all_goals
    go_wp2
    go_end0
    have hE := rpush_end ((HB.out.alloc (.cells #[.int .i64 a, .int .i64 b] 25)).alloc (.cells #[.int .i64 kd, .int .i64 0, .string ⟨#[]⟩, .int .i64 a, .int .i64 b] 37)).drew (mkT kd (a, b)) hown1 hgrow (hat.imp id (fun q => by simp; omega))
    exact ⟨rfl, hE.1, ((((Keep.refl Pr w).alloc HB.out.lt _).alloc HB.out.lt _).drew).trans hE.2⟩

/-- what is left behind b.columns = append(b.columns, c) -/
theorem rpushc_end {w w1 : World} {Pr : Nat → Prop} {g : Nat} {s : LSt} {vt vc : Value} (hD : RAt w Pr g s vt vc) (c : Int) {gg cap : Nat}
    (hown1 : w1.ownsRow 0 3 1 (.slice (some ⟨gg, 0, none⟩) (s.cols.length + 1) cap) (s.cols.length + 1) (colCells s.cols ++ [.int .i64 c]))
    (hgrow : w.grownBy w1 vc.ownBlock) (hat : vc.ownBlock = some gg ∨ w.heap.size ≤ gg) :
    RSt (w1.setCell ⟨g, 1, none⟩ (.slice (some ⟨gg, 0, none⟩) (s.cols.length + 1) cap)) Pr g { s with cols := c :: s.cols } ∧
      Keep Pr w (w1.setCell ⟨g, 1, none⟩ (.slice (some ⟨gg, 0, none⟩) (s.cols.length + 1) cap)) := by
  refine ⟨⟨vt, .slice (some ⟨gg, 0, none⟩) (s.cols.length + 1) cap, ?_⟩, ?_⟩
  · have hb1 := hD.blk.grown hgrow (Ne.symm hD.gc)
    have ht1 := owns_other hD.rt hgrow (fun k hk q => hD.tc k hk q)
    have hne : (Value.slice (some ⟨gg, 0, none⟩) (s.cols.length + 1) cap).ownBlock ≠ some g := own_blk_ne hown1 hb1 (by decide)
    have htg : vt.ownBlock ≠ some g := own_blk_ne ht1 hb1 (by decide)
    refine ⟨hb1.set_ 1 _, owns_set ht1 htg _, ?_, hD.ng, hD.nt, ?_, ?_⟩
    · show World.ownsRow _ _ _ _ _ (c :: s.cols).length (colCells (c :: s.cols))
      rw [List.length_cons, ← col_snoc]
      exact owns_set hown1 hne _
    · intro k hk hp
      have hkg : gg = k := by simpa [Value.ownBlock] using hk
      subst hkg
      rcases hat with q | q
      · exact hD.nc _ q hp
      · have := hD.lt _ hp; omega
    · intro k hk
      have := hD.lt k hk
      have h1 := hgrow.size
      simp [World.setCell] at h1 ⊢
      omega
  · exact ((Keep.refl Pr w).grown hgrow hD.lt hD.nc).setCell (p := ⟨g, 1, none⟩) hD.ng _
/-- what is left behind b.columns = b.columns[:len(b.columns)-1] -/
theorem rpopc_end {w : World} {Pr : Nat → Prop} {g : Nat} {s : LSt} {vt : Value} {gc cap : Nat} {x : Int} {r : List Int} (hc : s.cols = x :: r)
    (hD : RAt w Pr g s vt (.slice (some ⟨gc, 0, none⟩) (r.length + 1) cap)) :
    RSt (w.setCell ⟨g, 1, none⟩ (.slice (some ⟨gc, 0, none⟩) r.length cap)) Pr g { s with cols := r } ∧ Keep Pr w (w.setCell ⟨g, 1, none⟩ (.slice (some ⟨gc, 0, none⟩) r.length cap)) := by
  have hrc := hD.rc
  rw [hc] at hrc
  have h1 := owns_take hrc r.length (by simp)
  rw [col_take] at h1
  have hg : (Value.slice (some ⟨gc, 0, none⟩) r.length cap).ownBlock ≠ some g := hD.gc
  refine ⟨⟨vt, .slice (some ⟨gc, 0, none⟩) r.length cap, ?_⟩, (Keep.refl Pr w).setCell (p := ⟨g, 1, none⟩) hD.ng _⟩
  exact ⟨hD.blk.set_ 1 _, owns_set hD.rt hD.gt _, owns_set h1 hg _, hD.ng, hD.nt, hD.nc, fun k hk => by have := hD.lt k hk; simpa [World.setCell] using this⟩
theorem RSt.mono {w : World} {Pr Pr' : Nat → Prop} {g : Nat} {s : LSt} (h : RSt w Pr g s) (hp : ∀ k, Pr' k → Pr k) : RSt w Pr' g s := by
  obtain ⟨vt, vc, h⟩ := h
  exact ⟨vt, vc, h.mono hp⟩
theorem RSt.more {w : World} {Pr : Nat → Prop} {g : Nat} {s : LSt} (h : RSt w Pr g s) (o : Obj) : RSt (w.alloc o) (fun k => Pr k ∨ k = w.heap.size) g s := by
  obtain ⟨vt, vc, h⟩ := h
  exact ⟨vt, vc, h.more o⟩
theorem RSt.alloc {w : World} {Pr : Nat → Prop} {g : Nat} {s : LSt} (h : RSt w Pr g s) (o : Obj) : RSt (w.alloc o) Pr g s := by
  obtain ⟨vt, vc, h⟩ := h
  exact ⟨vt, vc, h.alloc o⟩
theorem RSt.drewN {w : World} {Pr : Nat → Prop} {g : Nat} {s : LSt} (h : RSt w Pr g s) (n : Nat) : RSt (w.drewN n) Pr g s := by
  obtain ⟨vt, vc, h⟩ := h
  exact ⟨vt, vc, h.drewN n⟩
theorem RSt.lt {w : World} {Pr : Nat → Prop} {g : Nat} {s : LSt} (h : RSt w Pr g s) : ∀ k, Pr k → k < w.heap.size := by
  obtain ⟨vt, vc, h⟩ := h
  exact h.lt
/-- the columns' slice where a block is open -/
theorem RAt.cform {w : World} {Pr : Nat → Prop} {g : Nat} {s : LSt} {vt vc : Value} (hD : RAt w Pr g s vt vc) {x : Int} {r : List Int} (hc : s.cols = x :: r) :
    ∃ gc cap, vc = .slice (some ⟨gc, 0, none⟩) (r.length + 1) cap ∧ r.length + 1 ≤ cap ∧ cap ≤ maxLen ∧ w.cell? ⟨gc, r.length, none⟩ = some (.int .i64 x) := by
  have hrc := hD.rc
  rw [hc] at hrc
  have hrc' := hrc
  obtain ⟨_, h⟩ := hrc'
  rcases h with ⟨_, q⟩ | ⟨gc, cap, cur, rfl, _, _, h1, h2, _, _⟩
  · simp at q
  · obtain ⟨g', c', e, _, _, _, hcell⟩ := owns_cell hrc (by simp)
    injection e with e1 e2 e3
    injection e1 with e1
    injection e1 with e1
    subst e1 e3
    exact ⟨_, _, rfl, h1, h2, hcell r.length _ (col_last x r)⟩

theorem RAt.below {w w' : World} {Pr : Nat → Prop} {g : Nat} {s : LSt} {vt vc : Value} (h : RAt w Pr g s vt vc) (hb : Below w.heap.size w w') : RAt w' Pr g s vt vc :=
  ⟨(hb.block _ h.blk.lt).trans h.blk, owns_below h.rt hb, owns_below h.rc hb, h.ng, h.nt, h.nc, fun k hk => Nat.lt_of_lt_of_le (h.lt k hk) hb.size⟩
theorem RSt.below {w w' : World} {Pr : Nat → Prop} {g : Nat} {s : LSt} (h : RSt w Pr g s) (hb : Below w.heap.size w w') : RSt w' Pr g s := by
  obtain ⟨vt, vc, h⟩ := h
  exact ⟨vt, vc, h.below hb⟩
set_option maxRecDepth 100000 in
set_option maxHeartbeats 3200000 in
theorem rclose_any (w : World) (Pr : Nat → Prop) (g : Nat) (s : LSt) (a b x : Int) (r : List Int) (h : RSt w Pr g s) (hc : s.cols = x :: r) (hn : s.out.length ≤ 1000000000) (hm : r.length ≤ 1000000000) :
    Calls Tryz.prog 54 #[.pointer (some ⟨g, 0, none⟩), posV a b] w (RPost w Pr g { s with out := s.out ++ [mkT 7 (a, b)], cols := r }) := by
  have HI := Lib.hid (rput_any _ _ g s 7 a b (h.more (.cells #[.int .i64 a, .int .i64 b] 25)) hn)
  have HL := Lib.hid h.lt
  have HC := Lib.hid hc
  clear h hn hc
  go_enter Tryz.func54, Tryz.ntmps54
  go_wp2_with fail
  refine HI.out.mono ?_
  rintro e w1 ⟨rfl, ⟨vt, vc, hB⟩, hK⟩
  obtain ⟨gc, cap, rfl, hcap, hmax, hcell⟩ := hB.cform HC.out
  unfold maxLen at hmax
  have k0 : w1.cell? ⟨g, 1, none⟩ = some (.slice (some ⟨gc, 0, none⟩) (r.length + 1 : Nat) cap) := hB.blk.cell 1
  have k1 : w1.frozen? ⟨g, 1, none⟩ = false := hB.blk.frozen 1
  have HB := Lib.hid hB
  have HK := Lib.hid hK
  clear hB hK HI hcell
  go_wp2_with fail
  go_region
  all_goals
    go_wp2
    go_end0
    have hE := rpopc_end (s := { s with out := s.out ++ [mkT 7 (a, b)] }) HC.out HB.out.drew
    refine ⟨rfl, hE.1.mono fun k hk => .inl hk, ?_⟩
    have h1 : Keep Pr w (w.alloc (.cells #[.int .i64 a, .int .i64 b] 25)) := (Keep.refl Pr w).alloc HL.out _
    exact h1.trans ((HK.out.drew.trans hE.2).mono (Pr' := Pr) fun k hk => .inl hk)

set_option maxRecDepth 100000 in
set_option maxHeartbeats 3200000 in
theorem rtop_any (w : World) (Pr : Nat → Prop) (g : Nat) (s : LSt) (x : Int) (r : List Int) (h : RSt w Pr g s) (hc : s.cols = x :: r) (hm : r.length ≤ 1000000000) :
    Calls Tryz.prog 65 #[.pointer (some ⟨g, 0, none⟩)] w fun e w' => e = .returned (.int .i64 x) ∧ ∃ m, w' = w.drewN m := by
  obtain ⟨vt, vc, hB⟩ := h
  obtain ⟨gc, cap, rfl, hcap, hmax, hcell⟩ := hB.cform hc
  unfold maxLen at hmax
  have k0 : w.cell? ⟨g, 1, none⟩ = some (.slice (some ⟨gc, 0, none⟩) (r.length + 1 : Nat) cap) := hB.blk.cell 1
  clear hB hc
  have h0 : (0 : Int) ≤ (r.length : Int) := Int.natCast_nonneg _
  go_enter Tryz.func65, Tryz.ntmps65
  go_wp2_with fail
  go_quiet (fail)
  go_wp2
  go_ret
  exact ⟨rfl, _, rfl⟩

end Go.Proofs.YtkjjagmpnnnimaaGreatDoor

namespace Go.Proofs.YtkjjagmpnnnimaaGreatDoor.M
open Go

structure LInv (k : Nat) (s : LSt) : Prop where
  base : s.cols.getLast? = some 1
  size : s.cols.length ≤ 64
  out : s.out.length + s.cols.length ≤ 4 * k + 2
  last : s.last = (0, 0) ∨ 1 ≤ s.last.1

theorem start_inv : LInv 0 startL := ⟨rfl, by decide, by decide, .inl rfl⟩
theorem begL_len (out : List Tok) (cols : List Int) (t : Tok) : (begL out cols t).2.1.length + (begL out cols t).2.2.length ≤ out.length + cols.length + 2 ∧ out.length ≤ (begL out cols t).2.1.length := by
  unfold begL
  split
  · simp; omega
  · split
    · simp
    · split
      · simp
      · simp; omega
theorem getLast_cons {x : Int} {cols : List Int} (h : cols.getLast? = some 1) : (x :: cols).getLast? = some 1 := by
  cases cols with
  | nil => simp at h
  | cons y r => simpa using h
theorem begL_ok {out : List Tok} {cols : List Int} {t : Tok} (hl : cols.getLast? = some 1) (hs : cols.length ≤ 64) :
    (begL out cols t).2.2.getLast? = some 1 ∧ (begL out cols t).2.2.length ≤ 64 := by
  unfold begL
  split
  · exact ⟨hl, hs⟩
  · split
    · exact ⟨hl, hs⟩
    · split
      · exact ⟨hl, hs⟩
      · rename_i h3
        exact ⟨getLast_cons hl, by simp; omega⟩
theorem procL_ok {out : List Tok} {cols : List Int} {t : Tok} (st : Bool) (hl : cols.getLast? = some 1) (hs : cols.length ≤ 64) (hb : 1 ≤ t.2.2) :
    (procL out cols t st).2.getLast? = some 1 ∧ (procL out cols t st).2.length ≤ 64 ∧ (procL out cols t st).1.length + (procL out cols t st).2.length ≤ out.length + cols.length + 1 := by
  have hp : (popS st out cols t).2.getLast? = some 1 ∧ (popS st out cols t).2.length ≤ cols.length ∧ (popS st out cols t).1.length + (popS st out cols t).2.length = out.length + cols.length := by
    unfold popS
    split
    · have := popC_ne t.2.2 t.2 hb cols out hl
      exact ⟨this.1, this.2.1, this.2.2.1⟩
    · exact ⟨hl, Nat.le_refl _, rfl⟩
  unfold procL
  generalize popS st out cols t = r at *
  obtain ⟨o, c⟩ := r
  simp only at hp
  obtain ⟨h1, h2, h3⟩ := hp
  unfold procE
  split
  · split
    · rename_i hq
      cases c with
      | nil => simp at h1
      | cons x r =>
        cases r with
        | nil => simp at hq; omega
        | cons y q => simp only [List.tail_cons]; simp at h1 h2 h3 ⊢; exact ⟨h1, by omega, by omega⟩
    · refine ⟨h1, ?_, ?_⟩ <;> simp only <;> omega
  · split
    · refine ⟨h1, ?_, ?_⟩
      · simp only; omega
      · simp; omega
    · refine ⟨h1, ?_, ?_⟩ <;> simp only <;> omega
theorem fin_inv {k : Nat} {out : List Tok} {cols : List Int} (item line : Int × Int) (t : Tok) (h1 : cols.getLast? = some 1) (h2 : cols.length ≤ 64) (h3 : out.length + cols.length ≤ 4 * k + 5) (h4 : 1 ≤ t.2.1) :
    LInv (k + 1) (finL out cols item line t) :=
  ⟨h1, h2, by show (out ++ [t]).length + cols.length ≤ _; simp; omega, .inr h4⟩
theorem isAft_pos {p q : Int × Int} (h : isAft p q = true) : 1 ≤ p.1 ∧ 1 ≤ p.2 := by
  unfold isAft at h
  simp at h
  exact ⟨h.1, h.2.1⟩
theorem val_aft {t : Tok} {q : Int × Int} (h : ¬ (valT t.1 && isAft t.2 q) = false) : valT t.1 = true ∧ isAft t.2 q = true := by
  cases h1 : valT t.1
  · rw [h1] at h; exact absurd rfl h
  · cases h2 : isAft t.2 q
    · rw [h1, h2] at h; exact absurd rfl h
    · exact ⟨rfl, rfl⟩
theorem add_inv {k : Nat} {s : LSt} (t : Tok) (h : LInv k s) (h0 : (addL s t).1 = 0) : LInv (k + 1) (addL s t).2 := by
  obtain ⟨b1, b2, b3, b4⟩ := h
  unfold addL at h0 ⊢
  by_cases h1 : (valT t.1 && isAft t.2 s.last) = false
  · rw [if_pos h1] at h0; simp at h0
  obtain ⟨_, ha⟩ := val_aft h1
  obtain ⟨p1, p2⟩ := isAft_pos ha
  rw [if_neg h1] at h0 ⊢
  by_cases h2 : s.last = (0, 0)
  · rw [if_pos h2] at h0 ⊢
    by_cases h3 : t.2.2 ≠ 1
    · rw [if_pos h3] at h0; simp at h0
    · rw [if_neg h3]; exact fin_inv _ _ _ b1 b2 (by omega) p1
  rw [if_neg h2] at h0 ⊢
  have hl := (begL_len s.out s.cols t).1
  by_cases h3 : s.item ≠ (0, 0)
  · rw [if_pos h3] at h0 ⊢
    by_cases h4 : (begL s.out s.cols t).1 ≠ 0
    · rw [if_pos h4] at h0; exact absurd h0 h4
    · rw [if_neg h4]
      obtain ⟨q1, q2⟩ := begL_ok (out := s.out) (t := t) b1 b2
      exact fin_inv _ _ _ q1 q2 (by omega) p1
  rw [if_neg h3] at h0 ⊢
  by_cases h5 : s.last.1 < t.2.1 ∧ s.line ≠ (0, 0)
  · rw [if_pos h5] at h0 ⊢
    by_cases h4 : (begL s.out s.cols t).1 ≠ 0
    · rw [if_pos h4] at h0; exact absurd h0 h4
    · rw [if_neg h4]
      obtain ⟨q1, q2⟩ := begL_ok (out := s.out) (t := t) b1 b2
      exact fin_inv _ _ _ q1 q2 (by omega) p1
  rw [if_neg h5]
  obtain ⟨q1, q2, q3⟩ := procL_ok (out := s.out) (decide (s.last.1 < t.2.1)) b1 b2 p2
  exact fin_inv _ _ _ q1 q2 (by omega) p1

end Go.Proofs.YtkjjagmpnnnimaaGreatDoor.M

namespace Go.Proofs.YtkjjagmpnnnimaaGreatDoor.M
open Go

/-- position q is behind position p -/
def aftB (p q : Int × Int) : Bool := decide (p.1 < q.1) || (decide (q.1 = p.1) && decide (p.2 < q.2))
/-- the reference's last position -/
def lastR (k : Nat) (s : LSt) : Int × Int := if k = 0 then (1, 0) else s.last

structure RInv (k : Nat) (s : LSt) : Prop where
  zero : k = 0 → s = startL
  pos : k ≠ 0 → s.last ≠ (0, 0) ∧ 1 ≤ s.last.1 ∧ 2 ≤ s.out.length
  item : s.item ≠ (0, 0) → s.item = s.last
  both : s.item ≠ (0, 0) → s.line ≠ (0, 0) → aftB s.line s.item = true
  line : s.line ≠ (0, 0) → s.line = s.last ∨ aftB s.line s.last = true
theorem start_rinv : RInv 0 startL := ⟨fun _ => rfl, fun h => absurd rfl h, fun h => absurd rfl h, fun h => absurd rfl h, fun h => absurd rfl h⟩
theorem aft_of {p q : Int × Int} (h : isAft p q = true) : 1 ≤ p.1 ∧ 1 ≤ p.2 ∧ aftB q p = true := by
  unfold isAft at h
  unfold aftB
  simp at h ⊢
  omega
theorem aft_trans {p q r : Int × Int} (h1 : aftB p q = true) (h2 : aftB q r = true) : aftB p r = true := by
  unfold aftB at *
  simp at h1 h2 ⊢
  omega
theorem valid_eq {k : Nat} {s : LSt} (h : RInv k s) (v : Bool) (p : Int × Int) : (v && isAft p s.last) = (v && (decide (1 ≤ p.2) && aftB (lastR k s) p)) := by
  congr 1
  by_cases h0 : k = 0
  · have hs := h.zero h0
    subst hs
    unfold lastR isAft aftB startL
    rw [if_pos h0, Bool.eq_iff_iff]
    simp
    omega
  · obtain ⟨_, hl, _⟩ := h.pos h0
    unfold lastR isAft aftB
    rw [if_neg h0, Bool.eq_iff_iff]
    simp
    omega
theorem key_apart {t : TR} (h : itemK t = true) : lineK t = false := by
  unfold itemK at h
  unfold lineK
  simp only [Bool.and_eq_true, Bool.or_eq_true, decide_eq_true_eq] at h
  obtain ⟨_, h | h⟩ := h <;> (rw [h]; simp [kwLet, kwExports, kwModule, kwTimed])
theorem fin_rinv (k : Nat) (out : List Tok) (cols : List Int) (line : Int × Int) (t : Tok) (h1 : 1 ≤ t.2.1) (ho : 1 ≤ out.length) (hl : line ≠ (0, 0) → aftB line t.2 = true) : RInv (k + 1) (finL out cols (0, 0) line t) := by
  have hne : t.2 ≠ (0, 0) := fun q => by rw [q] at h1; exact absurd h1 (by decide)
  refine ⟨fun q => absurd q (by omega), fun _ => ⟨hne, h1, by unfold finL; simp; omega⟩, fun hi => ?_, fun hi hn => ?_, fun hn => ?_⟩
  · unfold finL at hi ⊢
    simp only at hi ⊢
    by_cases hk : itemK t.1 = true
    · rw [if_pos hk]
    · rw [if_neg hk] at hi; exact absurd rfl hi
  · unfold finL at hi hn ⊢
    simp only at hi hn ⊢
    by_cases hk : itemK t.1 = true
    · rw [if_neg (by rw [key_apart hk]; decide)] at hn
      rw [if_pos hk, if_neg (by rw [key_apart hk]; decide)]
      exact hl hn
    · rw [if_neg hk] at hi; exact absurd rfl hi
  · unfold finL at hn ⊢
    simp only at hn ⊢
    by_cases hk : lineK t.1 = true
    · rw [if_pos hk]; exact .inl rfl
    · rw [if_neg hk] at hn ⊢; exact .inr (hl hn)
theorem begL_out (out : List Tok) (cols : List Int) (t : Tok) : out.length ≤ (begL out cols t).2.1.length := (begL_len out cols t).2
theorem procL_out {out : List Tok} {cols : List Int} {t : Tok} (st : Bool) (hl : cols.getLast? = some 1) (hb : 1 ≤ t.2.2) : out.length ≤ (procL out cols t st).1.length := by
  have hp : out.length ≤ (popS st out cols t).1.length := by
    unfold popS
    split
    · have := popC_ne t.2.2 t.2 hb cols out hl
      omega
    · exact Nat.le_refl _
  unfold procL
  generalize popS st out cols t = r at *
  unfold procE
  split
  · split
    · simp; omega
    · exact hp
  · split
    · simp; omega
    · exact hp
theorem line_aft {k : Nat} {s : LSt} (h : RInv k s) {p : Int × Int} (ha : isAft p s.last = true) : s.line ≠ (0, 0) → aftB s.line p = true := fun hn => by
  rcases h.line hn with q | q
  · rw [q]; exact (aft_of ha).2.2
  · exact aft_trans q (aft_of ha).2.2
theorem add_rinv {k : Nat} {s : LSt} (t : Tok) (hL : LInv k s) (h : RInv k s) (h0 : (addL s t).1 = 0) : RInv (k + 1) (addL s t).2 := by
  have ho : 1 ≤ s.out.length := by
    by_cases hk : k = 0
    · rw [h.zero hk]; decide
    · have := (h.pos hk).2.2; omega
  unfold addL at h0 ⊢
  by_cases h1 : (valT t.1 && isAft t.2 s.last) = false
  · rw [if_pos h1] at h0; simp at h0
  have ha : isAft t.2 s.last = true := by
    cases ha : isAft t.2 s.last
    · rw [ha, Bool.and_false] at h1; exact absurd rfl h1
    · rfl
  obtain ⟨ha1, ha2, _⟩ := aft_of ha
  rw [if_neg h1] at h0 ⊢
  by_cases h2 : s.last = (0, 0)
  · rw [if_pos h2] at h0 ⊢
    have hk : k = 0 := Classical.byContradiction fun q => (h.pos q).1 h2
    have hs := h.zero hk
    by_cases h3 : t.2.2 ≠ 1
    · rw [if_pos h3] at h0; simp at h0
    · rw [if_neg h3]
      have hi : s.item = (0, 0) := by rw [hs]; rfl
      rw [hi]
      exact fin_rinv k _ _ _ t ha1 ho (line_aft h ha)
  rw [if_neg h2] at h0 ⊢
  by_cases h3 : s.item ≠ (0, 0)
  · rw [if_pos h3] at h0 ⊢
    by_cases h4 : (begL s.out s.cols t).1 ≠ 0
    · rw [if_pos h4] at h0; exact absurd h0 h4
    · rw [if_neg h4]
      exact fin_rinv k _ _ _ t ha1 (Nat.le_trans ho (begL_out _ _ _)) (line_aft h ha)
  rw [if_neg h3] at h0 ⊢
  have hi : s.item = (0, 0) := Classical.not_not.1 h3
  by_cases h5 : s.last.1 < t.2.1 ∧ s.line ≠ (0, 0)
  · rw [if_pos h5] at h0 ⊢
    by_cases h4 : (begL s.out s.cols t).1 ≠ 0
    · rw [if_pos h4] at h0; exact absurd h0 h4
    · rw [if_neg h4]
      exact fin_rinv k _ _ _ t ha1 (Nat.le_trans ho (begL_out _ _ _)) (fun q => absurd rfl q)
  rw [if_neg h5, hi]
  exact fin_rinv k _ _ _ t ha1 (Nat.le_trans ho (procL_out _ hL.base ha2)) (line_aft h ha)

theorem lastR_succ (k : Nat) (s : LSt) : lastR (k + 1) s = s.last := by unfold lastR; rw [if_neg (by omega)]
theorem beqB (l k : Bs) : (l == k) = decide (l = k) := by
  by_cases h : l = k
  · rw [decide_eq_true h]; exact beq_iff_eq.2 h
  · rw [decide_eq_false h]; exact beq_eq_false_iff_ne.2 h
theorem key_cases (t : TR) :
    ((t.kind == 3) = false ∧ itemK t = false ∧ lineK t = false) ∨
    ((t.kind == 3) = true ∧ (t.str == [108, 101, 116]) = true ∧ itemK t = true ∧ lineK t = false) ∨
    ((t.kind == 3) = true ∧ (t.str == [108, 101, 116]) = false ∧ (t.str == [101, 120, 112, 111, 114, 116, 115]) = true ∧ itemK t = true ∧ lineK t = false) ∨
    ((t.kind == 3) = true ∧ (t.str == [108, 101, 116]) = false ∧ (t.str == [101, 120, 112, 111, 114, 116, 115]) = false ∧ (t.str == [109, 111, 100, 117, 108, 101]) = true ∧ itemK t = false ∧ lineK t = true) ∨
    ((t.kind == 3) = true ∧ (t.str == [108, 101, 116]) = false ∧ (t.str == [101, 120, 112, 111, 114, 116, 115]) = false ∧ (t.str == [109, 111, 100, 117, 108, 101]) = false ∧ (t.str == [84, 105, 109, 101, 100]) = true ∧ itemK t = false ∧ lineK t = true) ∨
    ((t.kind == 3) = true ∧ (t.str == [108, 101, 116]) = false ∧ (t.str == [101, 120, 112, 111, 114, 116, 115]) = false ∧ (t.str == [109, 111, 100, 117, 108, 101]) = false ∧ (t.str == [84, 105, 109, 101, 100]) = false ∧ itemK t = false ∧ lineK t = false) := by
  unfold itemK lineK
  rw [← beqB, ← beqB, ← beqB, ← beqB]
  unfold kwLet kwExports kwModule kwTimed
  by_cases hk : t.kind = 3
  · have h3 : (t.kind == 3) = true := beq_iff_eq.2 hk
    rw [decide_eq_true hk, h3]
    cases d1 : (t.str == [108, 101, 116])
    · cases d2 : (t.str == [101, 120, 112, 111, 114, 116, 115])
      · cases d3 : (t.str == [109, 111, 100, 117, 108, 101])
        · cases d4 : (t.str == [84, 105, 109, 101, 100])
          · right; right; right; right; right; exact ⟨rfl, rfl, rfl, rfl, rfl, rfl, rfl⟩
          · right; right; right; right; left; exact ⟨rfl, rfl, rfl, rfl, rfl, rfl, rfl⟩
        · right; right; right; left; exact ⟨rfl, rfl, rfl, rfl, rfl, rfl⟩
      · have e := beq_iff_eq.1 d2
        right; right; left; refine ⟨rfl, rfl, rfl, rfl, ?_⟩
        rw [e]; rfl
    · have e := beq_iff_eq.1 d1
      right; left; refine ⟨rfl, rfl, rfl, ?_⟩
      rw [e]; rfl
  · have h3 : (t.kind == 3) = false := beq_eq_false_iff_ne.2 hk
    rw [decide_eq_false hk, h3]
    left; exact ⟨rfl, rfl, rfl⟩

end Go.Proofs.YtkjjagmpnnnimaaGreatDoor.M
