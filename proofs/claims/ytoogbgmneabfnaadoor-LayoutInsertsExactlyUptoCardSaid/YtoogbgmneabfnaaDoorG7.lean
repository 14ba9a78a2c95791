/- The program's builder of Insert: insert, openBlock, closeBlock and column move the state that the model says. Condition: fewer than a thousand million tokens. The program's builder of Insert: openBlock, closeBlock and column. Condition: fewer than a thousand million tokens and blocks. -/
import Derived.Test.YtoogbgmneabfnaaDoorG6
import Derived.Deep.RegionHeld3
import Derived.Deep.RegionLaw
import Derived.Deep.AppendLies
import Derived.Deep.QuietTactic
import Derived.BigQuiet
namespace Go.Proofs.YtoogbgmneabfnaaDoor
open Go.RowKit M

/-- a position's value -/
abbrev posV (a b : Int) : Value := .agg #[.int .i64 a, .int .i64 b]
abbrev bCells (vt vc : Value) (la it li : Int × Int) : Array Value :=
  #[vt, vc, .int .i64 la.1, .int .i64 la.2, .int .i64 it.1, .int .i64 it.2, .int .i64 li.1, .int .i64 li.2]
def colCells (cols : List Int) : List Value := cols.reverse.map (Value.int .i64)
/-- block g is the builder of state s: its tokens vt, its columns vc; no block of Pr is the state's own -/
structure BAt (w : World) (Pr : Nat → Prop) (g : Nat) (s : LSt) (vt vc : Value) : Prop where
  blk : Blk w g 47 (bCells vt vc s.last s.item s.line)
  rt : w.ownsRow 0 37 5 vt s.out.length (toksCells s.out)
  rc : w.ownsRow 0 3 1 vc s.cols.length (colCells s.cols)
  ng : ¬ Pr g
  nt : ∀ k, vt.ownBlock = some k → ¬ Pr k
  nc : ∀ k, vc.ownBlock = some k → ¬ Pr k
  lt : ∀ k, Pr k → k < w.heap.size
def BSt (w : World) (Pr : Nat → Prop) (g : Nat) (s : LSt) : Prop := ∃ vt vc, BAt w Pr g s vt vc
/-- a method without results: the state s' behind it, the blocks of Pr as they were -/
def BPost (w : World) (Pr : Nat → Prop) (g : Nat) (s' : LSt) (e : Ending) (w' : World) : Prop := e = .returned (.tuple #[]) ∧ BSt w' Pr g s' ∧ Keep Pr w w'

section
variable {w w' : World} {Pr Pr' : Nat → Prop} {g : Nat} {s : LSt} {vt vc : Value}
theorem BAt.gt (h : BAt w Pr g s vt vc) : vt.ownBlock ≠ some g := own_blk_ne h.rt h.blk (by decide)
theorem BAt.gc (h : BAt w Pr g s vt vc) : vc.ownBlock ≠ some g := own_blk_ne h.rc h.blk (by decide)
theorem BAt.tc (h : BAt w Pr g s vt vc) : ∀ k, vt.ownBlock = some k → vc.ownBlock ≠ some k := own_own_ne h.rt h.rc (by decide)
theorem BAt.alloc (h : BAt w Pr g s vt vc) (o : Obj) : BAt (w.alloc o) Pr g s vt vc :=
  ⟨h.blk.alloc o, h.rt.alloc o, h.rc.alloc o, h.ng, h.nt, h.nc, fun k hk => Nat.lt_of_lt_of_le (h.lt k hk) (by simp)⟩
theorem BAt.drew (h : BAt w Pr g s vt vc) : BAt w.drew Pr g s vt vc := ⟨h.blk, h.rt, h.rc, h.ng, h.nt, h.nc, h.lt⟩
theorem BAt.drewN (h : BAt w Pr g s vt vc) (n : Nat) : BAt (w.drewN n) Pr g s vt vc := ⟨h.blk, h.rt, h.rc, h.ng, h.nt, h.nc, h.lt⟩
theorem BAt.mono (h : BAt w Pr g s vt vc) (hp : ∀ k, Pr' k → Pr k) : BAt w Pr' g s vt vc :=
  ⟨h.blk, h.rt, h.rc, fun k => h.ng (hp _ k), fun k hk q => h.nt k hk (hp _ q), fun k hk q => h.nc k hk (hp _ q), fun k hk => h.lt k (hp k hk)⟩
/-- one more block is protected: the one that is made now -/
theorem BAt.more (h : BAt w Pr g s vt vc) (o : Obj) : BAt (w.alloc o) (fun k => Pr k ∨ k = w.heap.size) g s vt vc := by
  have h' := h.alloc o
  refine ⟨h'.blk, h'.rt, h'.rc, ?_, ?_, ?_, ?_⟩
  · rintro (q | q)
    · exact h.ng q
    · have := h.blk.lt; omega
  · rintro k hk (q | q)
    · exact h.nt k hk q
    · have := (h.rt.lt k hk).2; omega
  · rintro k hk (q | q)
    · exact h.nc k hk q
    · have := (h.rc.lt k hk).2; omega
  · rintro k (q | q)
    · exact h'.lt k q
    · simp; omega
end
theorem owns_set {w : World} {b g o : Nat} {e : TypeId} {z : Nat} {v : Value} {n : Nat} {xs : List Value} (h : w.ownsRow b e z v n xs) (hg : v.ownBlock ≠ some g) (u : Value) : (w.setCell ⟨g, o, none⟩ u).ownsRow b e z v n xs := by
  refine h.kept (only_set (only_refl w (some g)) o u) ?_
  cases ho : v.ownBlock with
  | none => exact .inl rfl
  | some k => exact .inr (fun q => hg (by rw [ho, q]))
theorem owns_other {w w' : World} {row : Option Nat} {b : Nat} {e : TypeId} {z : Nat} {v : Value} {n : Nat} {xs : List Value} (h : w.ownsRow b e z v n xs) (hg : w.grownBy w' row) (hr : ∀ k, v.ownBlock = some k → row ≠ some k) : w'.ownsRow b e z v n xs := by
  refine h.kept hg ?_
  cases ho : v.ownBlock with
  | none => exact .inl rfl
  | some k => exact .inr (fun q => hr k ho q.symm)

theorem heap_new2 (w : World) (o o2 : Obj) : ((w.alloc o).alloc o2).heap[w.heap.size + 1]? = some o2 := by
  have := heap_alloc_new (w.alloc o) o2
  rwa [show (w.alloc o).heap.size = w.heap.size + 1 by simp] at this
theorem own_fresh {w : World} {b : Nat} {e : TypeId} {z : Nat} {v : Value} {n : Nat} {xs : List Value} (h : w.ownsRow b e z v n xs) {k : Nat} (hk : w.heap.size ≤ k) : v.ownBlock ≠ some k :=
  fun q => by have := (h.lt k q).2; omega
theorem tok_one (t : Tok) : ∀ u ∈ tokCells t, u.oneCell' = true := by
  intro u hu; simp [tokCells] at hu; rcases hu with rfl | rfl | rfl | rfl | rfl <;> rfl

theorem int_info : (Tryd.prog.info? 3).map (fun i => (i.zero, i.size, i.bytes)) = some (some (.int .i64 0), 1, 8) := by kernel_rfl

/-- what is left behind b.tokens = append(b.tokens, t) -/
theorem push_end {w w1 : World} {Pr : Nat → Prop} {g : Nat} {s : LSt} {vt vc : Value} (hD : BAt w Pr g s vt vc) (t : Tok) {gg cap : Nat}
    (hown1 : w1.ownsRow 0 37 5 (.slice (some ⟨gg, 0, none⟩) (s.out.length + 1) cap) (s.out.length + 1) (toksCells s.out ++ tokCells t))
    (hgrow : w.grownBy w1 vt.ownBlock) (hat : vt.ownBlock = some gg ∨ w.heap.size ≤ gg) :
    BSt (w1.setCell ⟨g, 0, none⟩ (.slice (some ⟨gg, 0, none⟩) (s.out.length + 1) cap)) Pr g { s with out := s.out ++ [t] } ∧
      Keep Pr w (w1.setCell ⟨g, 0, none⟩ (.slice (some ⟨gg, 0, none⟩) (s.out.length + 1) cap)) := by
  refine ⟨⟨.slice (some ⟨gg, 0, none⟩) (s.out.length + 1) cap, vc, ?_⟩, ?_⟩
  · have hb1 := hD.blk.grown hgrow (Ne.symm hD.gt)
    have hc1 := owns_other hD.rc hgrow (fun k hk q => hD.tc k q hk)
    have hne : (Value.slice (some ⟨gg, 0, none⟩) (s.out.length + 1) cap).ownBlock ≠ some g := own_blk_ne hown1 hb1 (by decide)
    have hcg : vc.ownBlock ≠ some g := own_blk_ne hc1 hb1 (by decide)
    refine ⟨hb1.set_ 0 _, ?_, owns_set hc1 hcg _, hD.ng, ?_, hD.nc, ?_⟩
    · show World.ownsRow _ _ _ _ _ (s.out ++ [t]).length (toksCells (s.out ++ [t]))
      rw [List.length_append, ← toks_snoc]
      exact owns_set hown1 hne _
    · intro k hk hp
      have hkg : gg = k := by simpa [Value.ownBlock] using hk
      subst hkg
      rcases hat with q | q
      · exact hD.nt _ q hp
      · have := hD.lt _ hp; omega
    · intro k hk
      have := hD.lt k hk
      have h1 := hgrow.size
      simp [World.setCell] at h1 ⊢
      omega
  · exact ((Keep.refl Pr w).grown hgrow hD.lt hD.nt).setCell (p := ⟨g, 0, none⟩) hD.ng _

set_option maxRecDepth 100000 in
set_option maxHeartbeats 3200000 in
theorem insert_any (w : World) (Pr : Nat → Prop) (g : Nat) (s : LSt) (kd a b : Int) (h : BSt w Pr g s) (hn : s.out.length ≤ 1000000000) :
    Calls Tryd.prog 37 #[.pointer (some ⟨g, 0, none⟩), .int .i64 kd, posV a b] w (BPost w Pr g { s with out := s.out ++ [mkT kd (a, b)] }) := by
  obtain ⟨vt, vc, hB⟩ := h
  obtain ⟨A1, c1, rfl⟩ := owns_form hB.rt
  obtain ⟨i0, hi0, hz0, hz1, hz2⟩ := info_parts token_info
  have k0 : w.cell? ⟨g, 0, none⟩ = some (.slice A1 s.out.length c1) := hB.blk.cell 0
  have kf : w.frozen? ⟨g, 0, none⟩ = false := hB.blk.frozen 0
  have hg : g < w.heap.size := hB.blk.lt
  have ag := hB.gt
  have ap : (Value.slice A1 s.out.length c1).ownBlock ≠ some w.heap.size := own_fresh hB.rt (Nat.le_refl _)
  have HB := Lib.hid hB
  clear hB
  go_enter Tryd.func37, Tryd.ntmps37
  go_wp2_with fail
  go_region_law
    ((refine step_append_lies _ (by rfl) _ _ _ (by rfl) 0 37 i0 _ 5 48 Tryd.underlying22 hi0 hz0 hz1 hz2 rfl (by omega) (.slice A1 s.out.length c1) s.out.length (toksCells s.out) (by rfl) (((HB.out.rt.alloc _).alloc _).drew)
        ⟨w.heap.size + 1, 0, none⟩ 1 1 (tokCells (mkT kd (a, b))) (by rfl) (by rfl) (World.news_of_block (cs := #[.int .i64 kd, .int .i64 0, .string ⟨#[]⟩, .int .i64 a, .int .i64 b]) (t := 37) (fr := (0, 0)) (heap_new2 _ _ _)) (tok_one _)
        (by omega) (by unfold maxLen; omega) (by omega) (by simp) (w.heap.size + 2) (by simp) ?_; intro gg cap w1 hown1 hgrow hat hlt; have hfz : w1.frozen? ⟨g, 0, none⟩ = false := (hgrow.frozen_far ⟨g, 0, none⟩ (by simp; omega) (Ne.symm ag)).trans ((((HB.out.alloc _).alloc _).drew).blk.frozen 0); have hcz : w1.cell? ⟨g, 0, none⟩ = some (.slice A1 s.out.length c1) := (hgrow.cell_far ⟨g, 0, none⟩ (by simp; omega) (Ne.symm ag)).trans ((((HB.out.alloc _).alloc _).drew).blk.cell 0)))
  all_goals
    go_wp2
    go_end0
    have hE := push_end ((HB.out.alloc (.cells #[.int .i64 a, .int .i64 b] 29)).alloc (.cells #[.int .i64 kd, .int .i64 0, .string ⟨#[]⟩, .int .i64 a, .int .i64 b] 37)).drew (mkT kd (a, b)) hown1 hgrow (hat.imp id (fun q => by simp; omega))
    exact ⟨rfl, hE.1, ((((Keep.refl Pr w).alloc HB.out.lt _).alloc HB.out.lt _).drew).trans hE.2⟩

end Go.Proofs.YtoogbgmneabfnaaDoor

namespace Go.Proofs.YtoogbgmneabfnaaDoor
open Go.RowKit M

theorem col_snoc (c : Int) (cols : List Int) : colCells cols ++ [Value.int .i64 c] = colCells (c :: cols) := by simp [colCells]
theorem col_len (cols : List Int) : (colCells cols).length = cols.length := by simp [colCells]
theorem col_last (x : Int) (r : List Int) : (colCells (x :: r))[r.length]? = some (.int .i64 x) := by
  rw [← col_snoc, List.getElem?_append_right (by rw [col_len]; exact Nat.le_refl _), col_len, Nat.sub_self]; rfl
theorem col_take (x : Int) (r : List Int) : (colCells (x :: r)).take (r.length * 1) = colCells r := by
  rw [← col_snoc, Nat.mul_one, List.take_append_of_le_length (by rw [col_len]; exact Nat.le_refl _), List.take_of_length_le (by rw [col_len]; exact Nat.le_refl _)]

/-- what is left behind b.columns = append(b.columns, c) -/
theorem pushc_end {w w1 : World} {Pr : Nat → Prop} {g : Nat} {s : LSt} {vt vc : Value} (hD : BAt w Pr g s vt vc) (c : Int) {gg cap : Nat}
    (hown1 : w1.ownsRow 0 3 1 (.slice (some ⟨gg, 0, none⟩) (s.cols.length + 1) cap) (s.cols.length + 1) (colCells s.cols ++ [.int .i64 c]))
    (hgrow : w.grownBy w1 vc.ownBlock) (hat : vc.ownBlock = some gg ∨ w.heap.size ≤ gg) :
    BSt (w1.setCell ⟨g, 1, none⟩ (.slice (some ⟨gg, 0, none⟩) (s.cols.length + 1) cap)) Pr g { s with cols := c :: s.cols } ∧
      Keep Pr w (w1.setCell ⟨g, 1, none⟩ (.slice (some ⟨gg, 0, none⟩) (s.cols.length + 1) cap)) := by
  refine ⟨⟨vt, .slice (some ⟨gg, 0, none⟩) (s.cols.length + 1) cap, ?_⟩, ?_⟩
  · have hb1 := hD.blk.grown hgrow (Ne.symm hD.gc)
    have ht1 := owns_other hD.rt hgrow (fun k hk q => hD.tc k hk q)
    have hne : (Value.slice (some ⟨gg, 0, none⟩) (s.cols.length + 1) cap).ownBlock ≠ some g := own_blk_ne hown1 hb1 (by decide)
    have htg : vt.ownBlock ≠ some g := own_blk_ne ht1 hb1 (by decide)
    refine ⟨hb1.set_ 1 _, owns_set ht1 htg _, ?_, hD.ng, hD.nt, ?_, ?_⟩
    · show World.ownsRow _ _ _ _ _ (c :: s.cols).length (colCells (c :: s.cols))
      rw [List.length_cons, ← col_snoc]
      exact owns_set hown1 hne _
    · intro k hk hp
      have hkg : gg = k := by simpa [Value.ownBlock] using hk
      subst hkg
      rcases hat with q | q
      · exact hD.nc _ q hp
      · have := hD.lt _ hp; omega
    · intro k hk
      have := hD.lt k hk
      have h1 := hgrow.size
      simp [World.setCell] at h1 ⊢
      omega
  · exact ((Keep.refl Pr w).grown hgrow hD.lt hD.nc).setCell (p := ⟨g, 1, none⟩) hD.ng _
/-- what is left behind b.columns = b.columns[:len(b.columns)-1] -/
theorem popc_end {w : World} {Pr : Nat → Prop} {g : Nat} {s : LSt} {vt : Value} {gc cap : Nat} {x : Int} {r : List Int} (hc : s.cols = x :: r)
    (hD : BAt w Pr g s vt (.slice (some ⟨gc, 0, none⟩) (r.length + 1) cap)) :
    BSt (w.setCell ⟨g, 1, none⟩ (.slice (some ⟨gc, 0, none⟩) r.length cap)) Pr g { s with cols := r } ∧ Keep Pr w (w.setCell ⟨g, 1, none⟩ (.slice (some ⟨gc, 0, none⟩) r.length cap)) := by
  have hrc := hD.rc
  rw [hc] at hrc
  have h1 := owns_take hrc r.length (by simp)
  rw [col_take] at h1
  have hg : (Value.slice (some ⟨gc, 0, none⟩) r.length cap).ownBlock ≠ some g := hD.gc
  refine ⟨⟨vt, .slice (some ⟨gc, 0, none⟩) r.length cap, ?_⟩, (Keep.refl Pr w).setCell (p := ⟨g, 1, none⟩) hD.ng _⟩
  exact ⟨hD.blk.set_ 1 _, owns_set hD.rt hD.gt _, owns_set h1 hg _, hD.ng, hD.nt, hD.nc, fun k hk => by have := hD.lt k hk; simpa [World.setCell] using this⟩
theorem BSt.mono {w : World} {Pr Pr' : Nat → Prop} {g : Nat} {s : LSt} (h : BSt w Pr g s) (hp : ∀ k, Pr' k → Pr k) : BSt w Pr' g s := by
  obtain ⟨vt, vc, h⟩ := h
  exact ⟨vt, vc, h.mono hp⟩
theorem BSt.more {w : World} {Pr : Nat → Prop} {g : Nat} {s : LSt} (h : BSt w Pr g s) (o : Obj) : BSt (w.alloc o) (fun k => Pr k ∨ k = w.heap.size) g s := by
  obtain ⟨vt, vc, h⟩ := h
  exact ⟨vt, vc, h.more o⟩
theorem BSt.alloc {w : World} {Pr : Nat → Prop} {g : Nat} {s : LSt} (h : BSt w Pr g s) (o : Obj) : BSt (w.alloc o) Pr g s := by
  obtain ⟨vt, vc, h⟩ := h
  exact ⟨vt, vc, h.alloc o⟩
theorem BSt.drewN {w : World} {Pr : Nat → Prop} {g : Nat} {s : LSt} (h : BSt w Pr g s) (n : Nat) : BSt (w.drewN n) Pr g s := by
  obtain ⟨vt, vc, h⟩ := h
  exact ⟨vt, vc, h.drewN n⟩
theorem BSt.lt {w : World} {Pr : Nat → Prop} {g : Nat} {s : LSt} (h : BSt w Pr g s) : ∀ k, Pr k → k < w.heap.size := by
  obtain ⟨vt, vc, h⟩ := h
  exact h.lt
/-- the columns' slice where a block is open -/
theorem BAt.cform {w : World} {Pr : Nat → Prop} {g : Nat} {s : LSt} {vt vc : Value} (hD : BAt w Pr g s vt vc) {x : Int} {r : List Int} (hc : s.cols = x :: r) :
    ∃ gc cap, vc = .slice (some ⟨gc, 0, none⟩) (r.length + 1) cap ∧ r.length + 1 ≤ cap ∧ cap ≤ maxLen ∧ w.cell? ⟨gc, r.length, none⟩ = some (.int .i64 x) := by
  have hrc := hD.rc
  rw [hc] at hrc
  have hrc' := hrc
  obtain ⟨_, h⟩ := hrc'
  rcases h with ⟨_, q⟩ | ⟨gc, cap, cur, rfl, _, _, h1, h2, _, _⟩
  · simp at q
  · obtain ⟨g', c', e, _, _, _, hcell⟩ := owns_cell hrc (by simp)
    injection e with e1 e2 e3
    injection e1 with e1
    injection e1 with e1
    subst e1 e3
    exact ⟨_, _, rfl, h1, h2, hcell r.length _ (col_last x r)⟩

set_option maxRecDepth 100000 in
set_option maxHeartbeats 3200000 in
theorem open_any (w : World) (Pr : Nat → Prop) (g : Nat) (s : LSt) (a b : Int) (h : BSt w Pr g s) (hn : s.out.length ≤ 1000000000) (hm : s.cols.length ≤ 1000000000) :
    Calls Tryd.prog 30 #[.pointer (some ⟨g, 0, none⟩), posV a b] w (BPost w Pr g { s with out := s.out ++ [mkT 5 (a, b)], cols := b :: s.cols }) := by
  have HI := Lib.hid (insert_any _ _ g s 5 a b (h.more (.cells #[.int .i64 a, .int .i64 b] 29)) hn)
  have HL := Lib.hid h.lt
  clear h hn
  go_enter Tryd.func30, Tryd.ntmps30
  go_wp2_with fail
  refine HI.out.mono ?_
  rintro e w1 ⟨rfl, ⟨vt, vc, hB⟩, hK⟩
  obtain ⟨A1, c1, rfl⟩ := owns_form hB.rc
  obtain ⟨i0, hi0, hz0, hz1, hz2⟩ := info_parts int_info
  have k0 : w1.cell? ⟨g, 1, none⟩ = some (.slice A1 s.cols.length c1) := hB.blk.cell 1
  have k1 : w1.cell? ⟨w.heap.size, 1, none⟩ = some (.int .i64 b) := (hK.cell (.inr rfl) 1).trans (cell_of_row _ _ 1 _ _ _ (heap_alloc_new w _))
  have hg : g < w1.heap.size := hB.blk.lt
  have hsz : w.heap.size < w1.heap.size := hB.lt _ (.inr rfl)
  have ag := hB.gc
  have HB := Lib.hid hB
  have HK := Lib.hid hK
  clear hB hK HI
  go_wp2_with fail
  go_region_law
    ((refine step_append_lies _ (by rfl) _ _ _ (by rfl) 0 3 i0 _ 1 8 Tryd.underlying23 hi0 hz0 hz1 hz2 rfl (by omega) (.slice A1 s.cols.length c1) s.cols.length (colCells s.cols) (by rfl) ((HB.out.rc.alloc _).drew)
        ⟨w1.heap.size, 0, none⟩ 1 1 [.int .i64 b] (by rfl) (by rfl) (World.news_of_block (cs := #[.int .i64 b]) (t := 3) (fr := (0, 0)) (heap_alloc_new w1 _)) (by simp [Value.oneCell'])
        (by omega) (by unfold maxLen; omega) (by omega) (by simp) (w1.heap.size + 1) (by simp) ?_; intro gg cap w2 hown1 hgrow hat hlt; have hfz : w2.frozen? ⟨g, 1, none⟩ = false := (hgrow.frozen_far ⟨g, 1, none⟩ (by simp; omega) (Ne.symm ag)).trans (((HB.out.alloc _).drew).blk.frozen 1); have hcz : w2.cell? ⟨g, 1, none⟩ = some (.slice A1 s.cols.length c1) := (hgrow.cell_far ⟨g, 1, none⟩ (by simp; omega) (Ne.symm ag)).trans (((HB.out.alloc _).drew).blk.cell 1)))
  all_goals
    go_wp2
    go_end0
    have hE := pushc_end (HB.out.alloc (.cells #[.int .i64 b] 3)).drew b hown1 hgrow (hat.imp id (fun q => by simp; omega))
    refine ⟨rfl, hE.1.mono fun k hk => .inl hk, ?_⟩
    have h1 : Keep Pr w (w.alloc (.cells #[.int .i64 a, .int .i64 b] 29)) := (Keep.refl Pr w).alloc HL.out _
    have h2 := (((HK.out).alloc (fun k hk => by rcases hk with q | q; (have := HL.out k q; simp; omega); (simp; omega)) (.cells #[.int .i64 b] 3)).drew.trans hE.2).mono (Pr' := Pr) fun k hk => .inl hk
    exact h1.trans h2

set_option maxRecDepth 100000 in
set_option maxHeartbeats 3200000 in
theorem close_any (w : World) (Pr : Nat → Prop) (g : Nat) (s : LSt) (a b x : Int) (r : List Int) (h : BSt w Pr g s) (hc : s.cols = x :: r) (hn : s.out.length ≤ 1000000000) (hm : r.length ≤ 1000000000) :
    Calls Tryd.prog 19 #[.pointer (some ⟨g, 0, none⟩), posV a b] w (BPost w Pr g { s with out := s.out ++ [mkT 7 (a, b)], cols := r }) := by
  have HI := Lib.hid (insert_any _ _ g s 7 a b (h.more (.cells #[.int .i64 a, .int .i64 b] 29)) hn)
  have HL := Lib.hid h.lt
  have HC := Lib.hid hc
  clear h hn hc
  go_enter Tryd.func19, Tryd.ntmps19
  go_wp2_with fail
  refine HI.out.mono ?_
  rintro e w1 ⟨rfl, ⟨vt, vc, hB⟩, hK⟩
  obtain ⟨gc, cap, rfl, hcap, hmax, hcell⟩ := hB.cform HC.out
  unfold maxLen at hmax
  have k0 : w1.cell? ⟨g, 1, none⟩ = some (.slice (some ⟨gc, 0, none⟩) (r.length + 1 : Nat) cap) := hB.blk.cell 1
  have k1 : w1.frozen? ⟨g, 1, none⟩ = false := hB.blk.frozen 1
  have HB := Lib.hid hB
  have HK := Lib.hid hK
  clear hB hK HI hcell
  go_wp2_with fail
  go_region
  all_goals
    go_wp2
    go_end0
    have hE := popc_end (s := { s with out := s.out ++ [mkT 7 (a, b)] }) HC.out HB.out.drew
    refine ⟨rfl, hE.1.mono fun k hk => .inl hk, ?_⟩
    have h1 : Keep Pr w (w.alloc (.cells #[.int .i64 a, .int .i64 b] 29)) := (Keep.refl Pr w).alloc HL.out _
    exact h1.trans ((HK.out.drew.trans hE.2).mono (Pr' := Pr) fun k hk => .inl hk)

set_option maxRecDepth 100000 in
set_option maxHeartbeats 3200000 in
theorem column_any (w : World) (Pr : Nat → Prop) (g : Nat) (s : LSt) (x : Int) (r : List Int) (h : BSt w Pr g s) (hc : s.cols = x :: r) (hm : r.length ≤ 1000000000) :
    Calls Tryd.prog 53 #[.pointer (some ⟨g, 0, none⟩)] w fun e w' => e = .returned (.int .i64 x) ∧ ∃ m, w' = w.drewN m := by
  obtain ⟨vt, vc, hB⟩ := h
  obtain ⟨gc, cap, rfl, hcap, hmax, hcell⟩ := hB.cform hc
  unfold maxLen at hmax
  have k0 : w.cell? ⟨g, 1, none⟩ = some (.slice (some ⟨gc, 0, none⟩) (r.length + 1 : Nat) cap) := hB.blk.cell 1
  clear hB hc
  have h0 : (0 : Int) ≤ (r.length : Int) := Int.natCast_nonneg _
  go_enter Tryd.func53, Tryd.ntmps53
  go_wp2_with fail
  go_quiet (fail)
  go_wp2
  go_ret
  exact ⟨rfl, _, rfl⟩

end Go.Proofs.YtoogbgmneabfnaaDoor
