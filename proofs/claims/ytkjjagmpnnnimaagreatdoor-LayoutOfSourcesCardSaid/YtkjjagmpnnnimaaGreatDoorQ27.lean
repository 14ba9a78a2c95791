/- The reference's Insert: how its inserter begins, what its loop keeps. The reference's Insert, behind a token's switch: the token is appended, and its keyword waits for its block. -/
import Derived.Test.YtkjjagmpnnnimaaGreatDoorQ24
import Derived.Test.YtkjjagmpnnnimaaGreatDoorQ26
import Derived.Deep.DeepCutAuto
import Derived.Deep.CutBlock
import Derived.Deep.RegionWith
namespace Go.Proofs.YtkjjagmpnnnimaaGreatDoor
open Go.RowKit M

theorem RSt.setP {w : World} {Pr : Nat → Prop} {g : Nat} {s : LSt} (h : RSt w Pr g s) {b : Nat} (hb : Pr b) (o : Nat) (u : Value) : RSt (w.setCell ⟨b, o, none⟩ u) Pr g s := by
  obtain ⟨vt, vc, q⟩ := h
  refine ⟨vt, vc, q.blk.far (p := ⟨b, o, none⟩) (fun e => q.ng (e ▸ hb)) u, owns_set q.rt (fun e => q.nt _ e hb) u, owns_set q.rc (fun e => q.nc _ e hb) u, q.ng, q.nt, q.nc, fun k hk => ?_⟩
  have := q.lt k hk
  simpa [World.setCell] using this
theorem one_own (w : World) (o : Obj) : ((w.alloc (.cells #[.int .i64 1] 3)).alloc o).ownsRow 0 3 1 (.slice (some ⟨w.heap.size, 0, none⟩) 1 1) 1 (colCells [1]) :=
  ⟨rfl, .inr ⟨w.heap.size, 1, #[.int .i64 1], rfl, Nat.zero_le _, heap_alloc2_old w _ o, Nat.le_refl _, by unfold maxLen; omega, rfl, rfl⟩⟩
/-- the inserter as it begins -/
theorem rstart (w : World) : RSt ((w.alloc (.cells #[.int .i64 1] 3)).alloc (.cells #[.slice none 0 0, .slice (some ⟨w.heap.size, 0, none⟩) 1 1, .int .i64 0, .int .i64 0, .int .i64 0, .int .i64 0] 75)) (· < w.heap.size) (w.heap.size + 1) ⟨[], [1], (0, 0), (0, 0), (0, 0)⟩ := by
  refine ⟨.slice none 0 0, .slice (some ⟨w.heap.size, 0, none⟩) 1 1, heap_new2 w _ _, World.ownsRow_nil _ _ _ _, one_own w _, by simp, fun k hk => ?_, fun k hk => ?_, fun k hk => ?_⟩
  · simp [Value.ownBlock] at hk
  · have : w.heap.size = k := by simpa [Value.ownBlock] using hk
    omega
  · have hk : k < w.heap.size := hk
    simp; omega
theorem RAt.item_ {w : World} {Pr : Nat → Prop} {g : Nat} {s : LSt} {vt vc : Value} (h : RAt w Pr g s vt vc) (x y : Int) :
    RSt ((w.setCell ⟨g, 2, none⟩ (.int .i64 x)).setCell ⟨g, 3, none⟩ (.int .i64 y)) Pr g { s with item := (x, y) } ∧ Keep Pr w ((w.setCell ⟨g, 2, none⟩ (.int .i64 x)).setCell ⟨g, 3, none⟩ (.int .i64 y)) :=
  ⟨⟨vt, vc, (h.blk.set_ 2 _).set_ 3 _, owns_set (owns_set h.rt h.gt _) h.gt _, owns_set (owns_set h.rc h.gc _) h.gc _, h.ng, h.nt, h.nc, fun k hk => by have := h.lt k hk; simpa [World.setCell] using this⟩,
    ((Keep.refl Pr w).setCell (p := ⟨g, 2, none⟩) h.ng _).setCell (p := ⟨g, 3, none⟩) h.ng _⟩
theorem RAt.line_ {w : World} {Pr : Nat → Prop} {g : Nat} {s : LSt} {vt vc : Value} (h : RAt w Pr g s vt vc) (x y : Int) :
    RSt ((w.setCell ⟨g, 4, none⟩ (.int .i64 x)).setCell ⟨g, 5, none⟩ (.int .i64 y)) Pr g { s with line := (x, y) } ∧ Keep Pr w ((w.setCell ⟨g, 4, none⟩ (.int .i64 x)).setCell ⟨g, 5, none⟩ (.int .i64 y)) :=
  ⟨⟨vt, vc, (h.blk.set_ 4 _).set_ 5 _, owns_set (owns_set h.rt h.gt _) h.gt _, owns_set (owns_set h.rc h.gc _) h.gc _, h.ng, h.nt, h.nc, fun k hk => by have := h.lt k hk; simpa [World.setCell] using this⟩,
    ((Keep.refl Pr w).setCell (p := ⟨g, 4, none⟩) h.ng _).setCell (p := ⟨g, 5, none⟩) h.ng _⟩
theorem RSt.item_ {w : World} {Pr : Nat → Prop} {g : Nat} {s : LSt} (h : RSt w Pr g s) (x y : Int) :
    RSt ((w.setCell ⟨g, 2, none⟩ (.int .i64 x)).setCell ⟨g, 3, none⟩ (.int .i64 y)) Pr g { s with item := (x, y) } ∧ Keep Pr w ((w.setCell ⟨g, 2, none⟩ (.int .i64 x)).setCell ⟨g, 3, none⟩ (.int .i64 y)) := by
  obtain ⟨_, _, h⟩ := h; exact h.item_ x y
theorem RSt.line_ {w : World} {Pr : Nat → Prop} {g : Nat} {s : LSt} (h : RSt w Pr g s) (x y : Int) :
    RSt ((w.setCell ⟨g, 4, none⟩ (.int .i64 x)).setCell ⟨g, 5, none⟩ (.int .i64 y)) Pr g { s with line := (x, y) } ∧ Keep Pr w ((w.setCell ⟨g, 4, none⟩ (.int .i64 x)).setCell ⟨g, 5, none⟩ (.int .i64 y)) := by
  obtain ⟨_, _, h⟩ := h; exact h.line_ x y
theorem RSt.cells {w : World} {Pr : Nat → Prop} {g : Nat} {s : LSt} (h : RSt w Pr g s) : w.cell? ⟨g, 2, none⟩ = some (.int .i64 s.item.1) ∧ w.cell? ⟨g, 3, none⟩ = some (.int .i64 s.item.2) ∧ w.cell? ⟨g, 4, none⟩ = some (.int .i64 s.line.1) ∧ w.cell? ⟨g, 5, none⟩ = some (.int .i64 s.line.2) ∧ ∀ i, w.frozen? ⟨g, i, none⟩ = false := by
  obtain ⟨_, _, h⟩ := h
  exact ⟨h.blk.cell 2, h.blk.cell 3, h.blk.cell 4, h.blk.cell 5, fun i => h.blk.frozen i⟩
theorem RSt.last_ {w : World} {Pr : Nat → Prop} {g : Nat} {s : LSt} (h : RSt w Pr g s) (p : Int × Int) : RSt w Pr g { s with last := p } := by
  obtain ⟨vt, vc, h⟩ := h
  exact ⟨vt, vc, h.blk, h.rt, h.rc, h.ng, h.nt, h.nc, h.lt⟩
def RIRel (w : World) (L : Nat) (ts : List Tok) (i : Value) (wr : World) : Prop :=
  ∃ (k : Nat) (s : LSt), k ≤ ts.length ∧ i = .int .i64 k ∧ LInv k s ∧ RInv k s ∧ RSt wr (orOne (· < w.heap.size + 1) L) (w.heap.size + 1 + 1) s ∧ Keep (· < w.heap.size + 1) (w.alloc (.cells #[.int .i64 0, .int .i64 0] 25)) wr ∧
    Blk wr L 25 #[.int .i64 (lastR k s).1, .int .i64 (lastR k s).2] ∧ insL ts = insF s (ts.drop k)

/-- where the ways through a token's switch meet: what is left is to append the token and to look at its keyword -/
def JRel (W : World) (Pr : Nat → Prop) (g : Nat) (s : LSt) (tk : Tok) (wx : World) : Prop :=
  ∃ s2 : LSt, addL s tk = (0, finL s2.out s2.cols s2.item s2.line tk) ∧ s2.out.length ≤ 1000000000 ∧ RSt wx Pr g s2 ∧ Keep Pr W wx

end Go.Proofs.YtkjjagmpnnnimaaGreatDoor

namespace Go.Proofs.YtkjjagmpnnnimaaGreatDoor
open Go.RowKit M

def afterB2 : Code → Option Code
  | .seq (.block 2 _) c => some c
  | .seq a b => match afterB2 a with
    | some c => some c
    | none => afterB2 b
  | .block _ c => afterB2 c
  | .loop c => afterB2 c
  | _ => none
/-- it ends as it should, and then J holds -/
def EndsIn (J : Act → World → Prop) : Exit → Act → World → Prop
  | .normal, a, w => J a w
  | _, _, _ => False
theorem ends_imp (Q : Exit → Act → World → Prop) : ∀ e a w, EndsIn (fun a w => Q .normal a w) e a w → Q e a w := fun e a w h => by
  cases e <;> first | exact h | exact (h : False).elim
noncomputable def rtailC : Code := (Tryz.f24.body.bind afterB2).getD .skip

set_option maxRecDepth 1000000 in
set_option maxHeartbeats 6400000 in
theorem rtail_any (w6 : World) (Pr : Nat → Prop) (g bt : Nat) (s2 : LSt) (t : TR) (a b : Int) (hB6 : RSt w6 Pr g s2) (hPb : Pr bt) (hT6 : ∀ i, w6.cell? ⟨bt, i, none⟩ = (#[.int .i64 t.kind, .int .i64 t.num, .string (S t.str), .int .i64 a, .int .i64 b] : Array Value)[i]?) (hol : s2.out.length ≤ 1000000000)
    (J : Act → World → Prop) (z0 z1 z2 z3 z4 z6 z7 z9 z10 z11 z12 z13 z14 z15 z16 z17 z18 z19 z20 z21 z22 z23 z24 z25 z26 z27 z28 z29 z30 z31 z32 z33 z34 z35 z36 z37 z38 z39 z40 z41 z42 z43 z44 z45 z46 z47 z48 z49 z50 z51 z52 z53 z54 z55 z56 z57 z58 z59 z60 z61 z62 z63 z64 z65 z66 z67 z68 z69 z70 z71 z72 z73 z74 z75 z76 z77 z78 z79 z80 z81 z82 z83 z84 z85 z86 z87 z88 z89 z90 z91 z92 z93 z94 z95 z96 z97 z98 z99 z100 z101 z102 z103 z104 z105 z106 z107 z108 z109 z110 z111 z112 z113 z114 z115 z116 z117 z118 z119 z120 z121 z122 z123 z124 z125 z126 z127 z128 z129 z130 z131 z132 z133 z134 z135 z136 z137 z138 z139 z140 z141 z142 z143 z144 z145 z146 z147 z148 z149 z150 z151 z152 z153 z154 z155 z156 z157 z158 z159 z160 z161 z162 z163 z164 z165 z166 z167 z168 z169 z170 z171 z172 z173 z174 z175 z176 z177 z178 z179 z180 z181 z182 z183 z184 z185 z186 z187 z188 z189 z190 z191 z192 z193 z194 z195 : Value)
    (hQ : ∀ (y112 y113 y114 y115 y116 y117 y118 y119 y120 y121 y122 y123 y124 y125 y126 y127 y128 y129 y130 y131 y132 y133 y134 y135 y136 y137 y138 y139 y140 y141 y142 : Value) (w9 : World), RSt w9 Pr g (finL s2.out s2.cols s2.item s2.line (t, (a, b))) → Keep Pr w6 w9 → J ⟨List.toArray (z0 :: z1 :: z2 :: z3 :: z4 :: .pointer (some ⟨g, 0, none⟩) :: z6 :: z7 :: .pointer (some ⟨bt, 0, none⟩) :: z9 :: z10 :: z11 :: z12 :: z13 :: z14 :: z15 :: z16 :: z17 :: z18 :: z19 :: z20 :: z21 :: z22 :: z23 :: z24 :: z25 :: z26 :: z27 :: z28 :: z29 :: z30 :: z31 :: z32 :: z33 :: z34 :: z35 :: z36 :: z37 :: z38 :: z39 :: z40 :: z41 :: z42 :: z43 :: z44 :: z45 :: z46 :: z47 :: z48 :: z49 :: z50 :: z51 :: z52 :: z53 :: z54 :: z55 :: z56 :: z57 :: z58 :: z59 :: z60 :: z61 :: z62 :: z63 :: z64 :: z65 :: z66 :: z67 :: z68 :: z69 :: z70 :: z71 :: z72 :: z73 :: z74 :: z75 :: z76 :: z77 :: z78 :: z79 :: z80 :: z81 :: z82 :: z83 :: z84 :: z85 :: z86 :: z87 :: z88 :: z89 :: z90 :: z91 :: z92 :: z93 :: z94 :: z95 :: z96 :: z97 :: z98 :: z99 :: z100 :: z101 :: z102 :: z103 :: z104 :: z105 :: z106 :: z107 :: z108 :: z109 :: z110 :: z111 :: y112 :: y113 :: y114 :: y115 :: y116 :: y117 :: y118 :: y119 :: y120 :: y121 :: y122 :: y123 :: y124 :: y125 :: y126 :: y127 :: y128 :: y129 :: y130 :: y131 :: y132 :: y133 :: y134 :: y135 :: y136 :: y137 :: y138 :: y139 :: y140 :: y141 :: y142 :: z143 :: z144 :: z145 :: z146 :: z147 :: z148 :: z149 :: z150 :: z151 :: z152 :: z153 :: z154 :: z155 :: z156 :: z157 :: z158 :: z159 :: z160 :: z161 :: z162 :: z163 :: z164 :: z165 :: z166 :: z167 :: z168 :: z169 :: z170 :: z171 :: z172 :: z173 :: z174 :: z175 :: z176 :: z177 :: z178 :: z179 :: z180 :: z181 :: z182 :: z183 :: z184 :: z185 :: z186 :: z187 :: z188 :: z189 :: z190 :: z191 :: z192 :: z193 :: z194 :: z195 :: []), []⟩ w9) :
    Code.wp Tryz.prog rtailC (EndsIn J) ⟨List.toArray (z0 :: z1 :: z2 :: z3 :: z4 :: .pointer (some ⟨g, 0, none⟩) :: z6 :: z7 :: .pointer (some ⟨bt, 0, none⟩) :: z9 :: z10 :: z11 :: z12 :: z13 :: z14 :: z15 :: z16 :: z17 :: z18 :: z19 :: z20 :: z21 :: z22 :: z23 :: z24 :: z25 :: z26 :: z27 :: z28 :: z29 :: z30 :: z31 :: z32 :: z33 :: z34 :: z35 :: z36 :: z37 :: z38 :: z39 :: z40 :: z41 :: z42 :: z43 :: z44 :: z45 :: z46 :: z47 :: z48 :: z49 :: z50 :: z51 :: z52 :: z53 :: z54 :: z55 :: z56 :: z57 :: z58 :: z59 :: z60 :: z61 :: z62 :: z63 :: z64 :: z65 :: z66 :: z67 :: z68 :: z69 :: z70 :: z71 :: z72 :: z73 :: z74 :: z75 :: z76 :: z77 :: z78 :: z79 :: z80 :: z81 :: z82 :: z83 :: z84 :: z85 :: z86 :: z87 :: z88 :: z89 :: z90 :: z91 :: z92 :: z93 :: z94 :: z95 :: z96 :: z97 :: z98 :: z99 :: z100 :: z101 :: z102 :: z103 :: z104 :: z105 :: z106 :: z107 :: z108 :: z109 :: z110 :: z111 :: z112 :: z113 :: z114 :: z115 :: z116 :: z117 :: z118 :: z119 :: z120 :: z121 :: z122 :: z123 :: z124 :: z125 :: z126 :: z127 :: z128 :: z129 :: z130 :: z131 :: z132 :: z133 :: z134 :: z135 :: z136 :: z137 :: z138 :: z139 :: z140 :: z141 :: z142 :: z143 :: z144 :: z145 :: z146 :: z147 :: z148 :: z149 :: z150 :: z151 :: z152 :: z153 :: z154 :: z155 :: z156 :: z157 :: z158 :: z159 :: z160 :: z161 :: z162 :: z163 :: z164 :: z165 :: z166 :: z167 :: z168 :: z169 :: z170 :: z171 :: z172 :: z173 :: z174 :: z175 :: z176 :: z177 :: z178 :: z179 :: z180 :: z181 :: z182 :: z183 :: z184 :: z185 :: z186 :: z187 :: z188 :: z189 :: z190 :: z191 :: z192 :: z193 :: z194 :: z195 :: []), []⟩ w6 := by
  conv => arg 2; whnf
  have HB6 := Lib.hid hB6
  have HT6 := Lib.hid hT6
  have HQ := Lib.hid hQ
  have hgb : ¬ g = bt := fun e => by obtain ⟨_, _, q⟩ := hB6; exact q.ng (e ▸ hPb)
  have hbg : ¬ bt = g := fun e => hgb e.symm
  have HPB := Lib.hid hPb
  clear hB6 hT6 hQ hPb
  obtain ⟨vt3, vc3, hB3⟩ := HB6.out
  obtain ⟨A3, cc3, rfl⟩ := owns_form hB3.rt
  obtain ⟨i0, hi0, hz0, hzz1, hzz2⟩ := info_parts token_info
  have m0 : w6.cell? ⟨g, 0, none⟩ = some (.slice A3 s2.out.length cc3) := hB3.blk.cell 0
  have ag := hB3.gt
  have hg3 : g < w6.heap.size := hB3.blk.lt
  have hbx : bt < w6.heap.size := hB3.lt _ HPB.out
  have d0 : w6.cell? ⟨bt, 0, none⟩ = some (.int .i64 t.kind) := HT6.out 0
  have d1 : w6.cell? ⟨bt, 1, none⟩ = some (.int .i64 t.num) := HT6.out 1
  have d2 : w6.cell? ⟨bt, 2, none⟩ = some (.string (S t.str)) := HT6.out 2
  have d3 : w6.cell? ⟨bt, 3, none⟩ = some (.int .i64 a) := HT6.out 3
  have d4 : w6.cell? ⟨bt, 4, none⟩ = some (.int .i64 b) := HT6.out 4
  have HB3 := Lib.hid hB3
  clear hB3
  go_wp2_with fail
  go_region_law
    ((refine step_append_lies _ (by rfl) _ _ _ (by rfl) 0 37 i0 _ 5 48 Tryz.underlying23 hi0 hz0 hzz1 hzz2 rfl (by omega) (.slice A3 s2.out.length cc3) s2.out.length (toksCells s2.out) (by rfl) ((HB3.out.rt.alloc _).drew)
        ⟨w6.heap.size, 0, none⟩ 1 1 (tokCells (t, (a, b))) (by rfl) (by rfl) (World.news_of_block (cs := #[.int .i64 t.kind, .int .i64 t.num, .string (S t.str), .int .i64 a, .int .i64 b]) (t := 37) (fr := (0, 0)) (heap_alloc_new w6 _)) (tok_one _)
        (by omega) (by unfold maxLen; omega) (by omega) (by simp) (w6.heap.size + 1) (by simp) ?_; intro gg cap w7 hown5 hgrow hat hlt2; have hfz : w7.frozen? ⟨g, 0, none⟩ = false := (hgrow.frozen_far ⟨g, 0, none⟩ (by simp; omega) (Ne.symm ag)).trans (((HB3.out.alloc _).drew).blk.frozen 0); have hcz : w7.cell? ⟨g, 0, none⟩ = some (.slice A3 s2.out.length cc3) := (hgrow.cell_far ⟨g, 0, none⟩ (by simp; omega) (Ne.symm ag)).trans (((HB3.out.alloc _).drew).blk.cell 0)))
  all_goals
    have hE := rpush_end (HB3.out.alloc (.cells #[.int .i64 t.kind, .int .i64 t.num, .string (S t.str), .int .i64 a, .int .i64 b] 37)).drew (t, (a, b)) hown5 hgrow (hat.imp id (fun q => by simp; omega))
    generalize w7.setCell ⟨g, 0, none⟩ (.slice (some ⟨gg, 0, none⟩) (_ + 1) cap) = w8 at *
    obtain ⟨hB8, hK8⟩ := hE
    have HB8 := Lib.hid hB8
    have HK8 : Hid (Keep Pr w6 w8) := (((Keep.refl Pr w6).alloc HB3.out.lt _).drew).trans hK8
    have j0 : w8.cell? ⟨bt, 0, none⟩ = some (.int .i64 t.kind) := (HK8.out.cell HPB.out 0).trans d0
    have j2 : w8.cell? ⟨bt, 2, none⟩ = some (.string (S t.str)) := (HK8.out.cell HPB.out 2).trans d2
    have j3 : w8.cell? ⟨bt, 3, none⟩ = some (.int .i64 a) := (HK8.out.cell HPB.out 3).trans d3
    have j4 : w8.cell? ⟨bt, 4, none⟩ = some (.int .i64 b) := (HK8.out.cell HPB.out 4).trans d4
    have HIT := Lib.hid (hB8.item_ a b)
    have HLI := Lib.hid (hB8.line_ a b)
    obtain ⟨n2, n3, n4, n5, nf⟩ := hB8.cells
    clear hB8 hK8 hown5 hgrow hat hfz hcz hlt2 m0 d0 d1 d2 d3 d4
    rcases key_cases t with ⟨e0, i1, i2⟩ | ⟨e0, e1, i1, i2⟩ | ⟨e0, e1, e2, i1, i2⟩ | ⟨e0, e1, e2, e3, i1, i2⟩ | ⟨e0, e1, e2, e3, e4, i1, i2⟩ | ⟨e0, e1, e2, e3, e4, i1, i2⟩
    all_goals
      have HI1 := Lib.hid i1
      have HI2 := Lib.hid i2
      clear i1 i2
      go_wp2_with fail
      first
        | exact HQ.out _ _ _ _ _ _ _ _ _ _ _ _ _ _ _ _ _ _ _ _ _ _ _ _ _ _ _ _ _ _ _ _ (by have h := HB8.out.last_ (a, b); unfold finL; rw [HI1.out, HI2.out]; exact h) HK8.out
        | exact HQ.out _ _ _ _ _ _ _ _ _ _ _ _ _ _ _ _ _ _ _ _ _ _ _ _ _ _ _ _ _ _ _ _ (by have h := HIT.out.1.last_ (a, b); unfold finL; rw [HI1.out, HI2.out]; exact h) (HK8.out.trans HIT.out.2)
        | exact HQ.out _ _ _ _ _ _ _ _ _ _ _ _ _ _ _ _ _ _ _ _ _ _ _ _ _ _ _ _ _ _ _ _ (by have h := HLI.out.1.last_ (a, b); unfold finL; rw [HI1.out, HI2.out]; exact h) (HK8.out.trans HLI.out.2)

end Go.Proofs.YtkjjagmpnnnimaaGreatDoor
