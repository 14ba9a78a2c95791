/- The program's builder of Insert: openBlock, closeBlock and column. Condition: fewer than a thousand million tokens and blocks. -/
import Derived.Test.YtbegenmhfmpgpaaDoorLayW1
import Derived.Deep.QuietTactic
import Derived.BigQuiet
namespace Go.Proofs.YtbegenmhfmpgpaaDoor
open Go.RowKit M

theorem col_snoc (c : Int) (cols : List Int) : colCells cols ++ [Value.int .i64 c] = colCells (c :: cols) := by simp [colCells]
theorem col_len (cols : List Int) : (colCells cols).length = cols.length := by simp [colCells]
theorem col_last (x : Int) (r : List Int) : (colCells (x :: r))[r.length]? = some (.int .i64 x) := by
  rw [← col_snoc, List.getElem?_append_right (by rw [col_len]; exact Nat.le_refl _), col_len, Nat.sub_self]; rfl
theorem col_take (x : Int) (r : List Int) : (colCells (x :: r)).take (r.length * 1) = colCells r := by
  rw [← col_snoc, Nat.mul_one, List.take_append_of_le_length (by rw [col_len]; exact Nat.le_refl _), List.take_of_length_le (by rw [col_len]; exact Nat.le_refl _)]

/-- what is left behind b.columns = append(b.columns, c) -/
theorem pushc_end {w w1 : World} {Pr : Nat → Prop} {g : Nat} {s : LSt} {vt vc : Value} (hD : BAt w Pr g s vt vc) (c : Int) {gg cap : Nat}
    (hown1 : w1.ownsRow 0 3 1 (.slice (some ⟨gg, 0, none⟩) (s.cols.length + 1) cap) (s.cols.length + 1) (colCells s.cols ++ [.int .i64 c]))
    (hgrow : w.grownBy w1 vc.ownBlock) (hat : vc.ownBlock = some gg ∨ w.heap.size ≤ gg) :
    BSt (w1.setCell ⟨g, 1, none⟩ (.slice (some ⟨gg, 0, none⟩) (s.cols.length + 1) cap)) Pr g { s with cols := c :: s.cols } ∧
      Keep Pr w (w1.setCell ⟨g, 1, none⟩ (.slice (some ⟨gg, 0, none⟩) (s.cols.length + 1) cap)) := by
  refine ⟨⟨vt, .slice (some ⟨gg, 0, none⟩) (s.cols.length + 1) cap, ?_⟩, ?_⟩
  · have hb1 := hD.blk.grown hgrow (Ne.symm hD.gc)
    have ht1 := owns_other hD.rt hgrow (fun k hk q => hD.tc k hk q)
    have hne : (Value.slice (some ⟨gg, 0, none⟩) (s.cols.length + 1) cap).ownBlock ≠ some g := own_blk_ne hown1 hb1 (by decide)
    have htg : vt.ownBlock ≠ some g := own_blk_ne ht1 hb1 (by decide)
    refine ⟨hb1.set_ 1 _, owns_set ht1 htg _, ?_, hD.ng, hD.nt, ?_, ?_⟩
    · show World.ownsRow _ _ _ _ _ (c :: s.cols).length (colCells (c :: s.cols))
      rw [List.length_cons, ← col_snoc]
      exact owns_set hown1 hne _
    · intro k hk hp
      have hkg : gg = k := by simpa [Value.ownBlock] using hk
      subst hkg
      rcases hat with q | q
      · exact hD.nc _ q hp
      · have := hD.lt _ hp; omega
    · intro k hk
      have := hD.lt k hk
      have h1 := hgrow.size
      simp [World.setCell] at h1 ⊢
      omega
  · exact ((Keep.refl Pr w).grown hgrow hD.lt hD.nc).setCell (p := ⟨g, 1, none⟩) hD.ng _
/-- what is left behind b.columns = b.columns[:len(b.columns)-1] -/
theorem popc_end {w : World} {Pr : Nat → Prop} {g : Nat} {s : LSt} {vt : Value} {gc cap : Nat} {x : Int} {r : List Int} (hc : s.cols = x :: r)
    (hD : BAt w Pr g s vt (.slice (some ⟨gc, 0, none⟩) (r.length + 1) cap)) :
    BSt (w.setCell ⟨g, 1, none⟩ (.slice (some ⟨gc, 0, none⟩) r.length cap)) Pr g { s with cols := r } ∧ Keep Pr w (w.setCell ⟨g, 1, none⟩ (.slice (some ⟨gc, 0, none⟩) r.length cap)) := by
  have hrc := hD.rc
  rw [hc] at hrc
  have h1 := owns_take hrc r.length (by simp)
  rw [col_take] at h1
  have hg : (Value.slice (some ⟨gc, 0, none⟩) r.length cap).ownBlock ≠ some g := hD.gc
  refine ⟨⟨vt, .slice (some ⟨gc, 0, none⟩) r.length cap, ?_⟩, (Keep.refl Pr w).setCell (p := ⟨g, 1, none⟩) hD.ng _⟩
  exact ⟨hD.blk.set_ 1 _, owns_set hD.rt hD.gt _, owns_set h1 hg _, hD.ng, hD.nt, hD.nc, fun k hk => by have := hD.lt k hk; simpa [World.setCell] using this⟩
theorem BSt.mono {w : World} {Pr Pr' : Nat → Prop} {g : Nat} {s : LSt} (h : BSt w Pr g s) (hp : ∀ k, Pr' k → Pr k) : BSt w Pr' g s := by
  obtain ⟨vt, vc, h⟩ := h
  exact ⟨vt, vc, h.mono hp⟩
theorem BSt.more {w : World} {Pr : Nat → Prop} {g : Nat} {s : LSt} (h : BSt w Pr g s) (o : Obj) : BSt (w.alloc o) (fun k => Pr k ∨ k = w.heap.size) g s := by
  obtain ⟨vt, vc, h⟩ := h
  exact ⟨vt, vc, h.more o⟩
theorem BSt.alloc {w : World} {Pr : Nat → Prop} {g : Nat} {s : LSt} (h : BSt w Pr g s) (o : Obj) : BSt (w.alloc o) Pr g s := by
  obtain ⟨vt, vc, h⟩ := h
  exact ⟨vt, vc, h.alloc o⟩
theorem BSt.drewN {w : World} {Pr : Nat → Prop} {g : Nat} {s : LSt} (h : BSt w Pr g s) (n : Nat) : BSt (w.drewN n) Pr g s := by
  obtain ⟨vt, vc, h⟩ := h
  exact ⟨vt, vc, h.drewN n⟩
theorem BSt.lt {w : World} {Pr : Nat → Prop} {g : Nat} {s : LSt} (h : BSt w Pr g s) : ∀ k, Pr k → k < w.heap.size := by
  obtain ⟨vt, vc, h⟩ := h
  exact h.lt
/-- the columns' slice where a block is open -/
theorem BAt.cform {w : World} {Pr : Nat → Prop} {g : Nat} {s : LSt} {vt vc : Value} (hD : BAt w Pr g s vt vc) {x : Int} {r : List Int} (hc : s.cols = x :: r) :
    ∃ gc cap, vc = .slice (some ⟨gc, 0, none⟩) (r.length + 1) cap ∧ r.length + 1 ≤ cap ∧ cap ≤ maxLen ∧ w.cell? ⟨gc, r.length, none⟩ = some (.int .i64 x) := by
  have hrc := hD.rc
  rw [hc] at hrc
  have hrc' := hrc
  obtain ⟨_, h⟩ := hrc'
  rcases h with ⟨_, q⟩ | ⟨gc, cap, cur, rfl, _, _, h1, h2, _, _⟩
  · simp at q
  · obtain ⟨g', c', e, _, _, _, hcell⟩ := owns_cell hrc (by simp)
    injection e with e1 e2 e3
    injection e1 with e1
    injection e1 with e1
    subst e1 e3
    exact ⟨_, _, rfl, h1, h2, hcell r.length _ (col_last x r)⟩

set_option maxRecDepth 100000 in
set_option maxHeartbeats 3200000 in
theorem open_any (w : World) (Pr : Nat → Prop) (g : Nat) (s : LSt) (a b : Int) (h : BSt w Pr g s) (hn : s.out.length ≤ 1000000000) (hm : s.cols.length ≤ 1000000000) :
    Calls Tryd.prog 85 #[.pointer (some ⟨g, 0, none⟩), posV a b] w (BPost w Pr g { s with out := s.out ++ [mkT 5 (a, b)], cols := b :: s.cols }) := by
  have HI := Lib.hid (insert_any _ _ g s 5 a b (h.more (.cells #[.int .i64 a, .int .i64 b] 23)) hn)
  have HL := Lib.hid h.lt
  clear h hn
  go_enter Tryd.func85, Tryd.ntmps85
  go_wp2_with fail
  refine HI.out.mono ?_
  rintro e w1 ⟨rfl, ⟨vt, vc, hB⟩, hK⟩
  obtain ⟨A1, c1, rfl⟩ := owns_form hB.rc
  obtain ⟨i0, hi0, hz0, hz1, hz2⟩ := info_parts int_info
  have k0 : w1.cell? ⟨g, 1, none⟩ = some (.slice A1 s.cols.length c1) := hB.blk.cell 1
  have k1 : w1.cell? ⟨w.heap.size, 1, none⟩ = some (.int .i64 b) := (hK.cell (.inr rfl) 1).trans (cell_of_row _ _ 1 _ _ _ (heap_alloc_new w _))
  have hg : g < w1.heap.size := hB.blk.lt
  have hsz : w.heap.size < w1.heap.size := hB.lt _ (.inr rfl)
  have ag := hB.gc
  have HB := Lib.hid hB
  have HK := Lib.hid hK
  clear hB hK HI
  go_wp2_with fail
  go_region_law
    ((refine step_append_lies _ (by rfl) _ _ _ (by rfl) 0 3 i0 _ 1 8 Tryd.underlying38 hi0 hz0 hz1 hz2 rfl (by omega) (.slice A1 s.cols.length c1) s.cols.length (colCells s.cols) (by rfl) ((HB.out.rc.alloc _).drew)
        ⟨w1.heap.size, 0, none⟩ 1 1 [.int .i64 b] (by rfl) (by rfl) (World.news_of_block (cs := #[.int .i64 b]) (t := 3) (fr := (0, 0)) (heap_alloc_new w1 _)) (by simp [Value.oneCell'])
        (by omega) (by unfold maxLen; omega) (by omega) (by simp) (w1.heap.size + 1) (by simp) ?_; intro gg cap w2 hown1 hgrow hat hlt; have hfz : w2.frozen? ⟨g, 1, none⟩ = false := (hgrow.frozen_far ⟨g, 1, none⟩ (by simp; omega) (Ne.symm ag)).trans (((HB.out.alloc _).drew).blk.frozen 1); have hcz : w2.cell? ⟨g, 1, none⟩ = some (.slice A1 s.cols.length c1) := (hgrow.cell_far ⟨g, 1, none⟩ (by simp; omega) (Ne.symm ag)).trans (((HB.out.alloc _).drew).blk.cell 1)))
  all_goals
    go_wp2
    go_end0
    have hE := pushc_end (HB.out.alloc (.cells #[.int .i64 b] 3)).drew b hown1 hgrow (hat.imp id (fun q => by simp; omega))
    refine ⟨rfl, hE.1.mono fun k hk => .inl hk, ?_⟩
    have h1 : Keep Pr w (w.alloc (.cells #[.int .i64 a, .int .i64 b] 23)) := (Keep.refl Pr w).alloc HL.out _
    have h2 := (((HK.out).alloc (fun k hk => by rcases hk with q | q; (have := HL.out k q; simp; omega); (simp; omega)) (.cells #[.int .i64 b] 3)).drew.trans hE.2).mono (Pr' := Pr) fun k hk => .inl hk
    exact h1.trans h2

set_option maxRecDepth 100000 in
set_option maxHeartbeats 3200000 in
theorem close_any (w : World) (Pr : Nat → Prop) (g : Nat) (s : LSt) (a b x : Int) (r : List Int) (h : BSt w Pr g s) (hc : s.cols = x :: r) (hn : s.out.length ≤ 1000000000) (hm : r.length ≤ 1000000000) :
    Calls Tryd.prog 67 #[.pointer (some ⟨g, 0, none⟩), posV a b] w (BPost w Pr g { s with out := s.out ++ [mkT 7 (a, b)], cols := r }) := by
  have HI := Lib.hid (insert_any _ _ g s 7 a b (h.more (.cells #[.int .i64 a, .int .i64 b] 23)) hn)
  have HL := Lib.hid h.lt
  have HC := Lib.hid hc
  clear h hn hc
  go_enter Tryd.func67, Tryd.ntmps67
  go_wp2_with fail
  refine HI.out.mono ?_
  rintro e w1 ⟨rfl, ⟨vt, vc, hB⟩, hK⟩
  obtain ⟨gc, cap, rfl, hcap, hmax, hcell⟩ := hB.cform HC.out
  unfold maxLen at hmax
  have k0 : w1.cell? ⟨g, 1, none⟩ = some (.slice (some ⟨gc, 0, none⟩) (r.length + 1 : Nat) cap) := hB.blk.cell 1
  have k1 : w1.frozen? ⟨g, 1, none⟩ = false := hB.blk.frozen 1
  have HB := Lib.hid hB
  have HK := Lib.hid hK
  clear hB hK HI hcell
  go_wp2_with fail
  go_region
  all_goals
    go_wp2
    go_end0
    have hE := popc_end (s := { s with out := s.out ++ [mkT 7 (a, b)] }) HC.out HB.out.drew
    refine ⟨rfl, hE.1.mono fun k hk => .inl hk, ?_⟩
    have h1 : Keep Pr w (w.alloc (.cells #[.int .i64 a, .int .i64 b] 23)) := (Keep.refl Pr w).alloc HL.out _
    exact h1.trans ((HK.out.drew.trans hE.2).mono (Pr' := Pr) fun k hk => .inl hk)

set_option maxRecDepth 100000 in
set_option maxHeartbeats 3200000 in
theorem column_any (w : World) (Pr : Nat → Prop) (g : Nat) (s : LSt) (x : Int) (r : List Int) (h : BSt w Pr g s) (hc : s.cols = x :: r) (hm : r.length ≤ 1000000000) :
    Calls Tryd.prog 102 #[.pointer (some ⟨g, 0, none⟩)] w fun e w' => e = .returned (.int .i64 x) ∧ ∃ m, w' = w.drewN m := by
  obtain ⟨vt, vc, hB⟩ := h
  obtain ⟨gc, cap, rfl, hcap, hmax, hcell⟩ := hB.cform hc
  unfold maxLen at hmax
  have k0 : w.cell? ⟨g, 1, none⟩ = some (.slice (some ⟨gc, 0, none⟩) (r.length + 1 : Nat) cap) := hB.blk.cell 1
  clear hB hc
  have h0 : (0 : Int) ≤ (r.length : Int) := Int.natCast_nonneg _
  go_enter Tryd.func102, Tryd.ntmps102
  go_wp2_with fail
  go_quiet (fail)
  go_wp2
  go_ret
  exact ⟨rfl, _, rfl⟩

end Go.Proofs.YtbegenmhfmpgpaaDoor
