/- The writer of sources: what its state is, and what a call keeps. No conditions. The writer of sources: a digit's string, a name made and names forgotten. Conditions: at most 1000 names. A region that draws its order and ends in stores: a load may be taken first if nothing that can come before it changes its cell, though what comes behind it does. No conditions. -/
import Derived.Test.YtkjjagmpnnnimaaGreatDoorQ9
import Derived.Deep.RegionWith
import Derived.Deep.QuietTactic
import Derived.BigQuiet
import Derived.Deep.RegionHeld3
import Derived.Deep.RegionLaw
import Derived.Deep.AppendLies
namespace Go.Proofs.YtkjjagmpnnnimaaGreatDoor
open Go.RowKit M

/-- what does not change: the writer's block, the choices' block, the numbers that came in, how many processes -/
structure GC where
  wb : Nat
  g : Nat
  A : Option Addr
  n : Nat
  c : Nat
  F : Nat
abbrev gCells (X : GC) (vn vt : Value) (fr : Nat) : Array Value := #[.pointer (some ⟨X.g, 0, none⟩), vn, vt, .int .i64 (X.F : Nat), .int .i64 (fr : Nat)]
structure GAt (w : World) (Pr : Nat → Prop) (X : GC) (k fr : Nat) (vn vt : Value) (xs ts : List Value) (ch : Nat) : Prop where
  blk : Blk w X.wb 47 (gCells X vn vt fr)
  cho : Cho w X.g X.A X.n X.c ch
  chn : ch ≤ X.n
  ints : ∃ B, B ≤ X.g ∧ IntsAt w B X.A X.n ∧ ∀ b, b < B → Pr b
  rn : w.ownsRow 0 9 1 vn k xs
  rt : w.ownsRow 0 3 1 vt k ts
  sn : ∀ x ∈ xs, ∃ s : ByteArray, x = .string s ∧ s.size ≤ 3
  st : ∀ x ∈ ts, ∃ z : Int, x = .int .i64 z
  kf : k ≤ fr
  nw : ¬ Pr X.wb
  ng : ¬ Pr X.g
  nn : ∀ j, vn.ownBlock = some j → ¬ Pr j
  nt : ∀ j, vt.ownBlock = some j → ¬ Pr j
  lt : ∀ j, Pr j → j < w.heap.size
/-- the writer's state: k visible variables, fr names made so far; no block of Pr is its own -/
def GSt (w : World) (Pr : Nat → Prop) (X : GC) (k fr : Nat) : Prop := ∃ vn vt xs ts ch, GAt w Pr X k fr vn vt xs ts ch
/-- a call that returns a string of at most L bytes and makes at most D names -/
def GPost (w : World) (Pr : Nat → Prop) (X : GC) (k fr L D : Nat) (e : Ending) (w' : World) : Prop :=
  ∃ (s : ByteArray) (fr' : Nat), e = .returned (.string s) ∧ s.size ≤ L ∧ fr ≤ fr' ∧ fr' ≤ fr + D ∧ GSt w' Pr X k fr' ∧ Keep Pr w w'

section
variable {w w' : World} {Pr Pr' : Nat → Prop} {X : GC} {k fr ch : Nat} {vn vt : Value} {xs ts : List Value}
theorem GAt.gw (h : GAt w Pr X k fr vn vt xs ts ch) : X.g ≠ X.wb := Blk.ne_ h.cho h.blk (by decide)
theorem GAt.nwb (h : GAt w Pr X k fr vn vt xs ts ch) : vn.ownBlock ≠ some X.wb := own_blk_ne h.rn h.blk (by decide)
theorem GAt.twb (h : GAt w Pr X k fr vn vt xs ts ch) : vt.ownBlock ≠ some X.wb := own_blk_ne h.rt h.blk (by decide)
theorem GAt.ngb (h : GAt w Pr X k fr vn vt xs ts ch) : vn.ownBlock ≠ some X.g := own_blk_ne h.rn h.cho (by decide)
theorem GAt.tgb (h : GAt w Pr X k fr vn vt xs ts ch) : vt.ownBlock ≠ some X.g := own_blk_ne h.rt h.cho (by decide)
theorem GAt.ntb (h : GAt w Pr X k fr vn vt xs ts ch) : ∀ j, vn.ownBlock = some j → vt.ownBlock ≠ some j := own_own_ne h.rn h.rt (by decide)
theorem GAt.ikeep (h : GAt w Pr X k fr vn vt xs ts ch) (hk : Keep Pr w w') : ∃ B, B ≤ X.g ∧ IntsAt w' B X.A X.n ∧ ∀ b, b < B → Pr b := by
  obtain ⟨B, h1, h2, h3⟩ := h.ints
  exact ⟨B, h1, h2.keep hk h3, h3⟩
theorem GAt.alloc (h : GAt w Pr X k fr vn vt xs ts ch) (o : Obj) : GAt (w.alloc o) Pr X k fr vn vt xs ts ch :=
  ⟨h.blk.alloc o, Blk.alloc h.cho o, h.chn, h.ikeep ((Keep.refl _ _).alloc h.lt o), h.rn.alloc o, h.rt.alloc o, h.sn, h.st, h.kf, h.nw, h.ng, h.nn, h.nt, fun j hj => Nat.lt_of_lt_of_le (h.lt j hj) (by simp)⟩
theorem GAt.drewN (h : GAt w Pr X k fr vn vt xs ts ch) (m : Nat) : GAt (w.drewN m) Pr X k fr vn vt xs ts ch :=
  ⟨h.blk, h.cho, h.chn, h.ikeep ((Keep.refl _ _).drewN m), h.rn, h.rt, h.sn, h.st, h.kf, h.nw, h.ng, h.nn, h.nt, h.lt⟩
/-- one more block is kept: the one that is made now -/
theorem GAt.more (h : GAt w Pr X k fr vn vt xs ts ch) (o : Obj) : GAt (w.alloc o) (fun j => Pr j ∨ j = w.heap.size) X k fr vn vt xs ts ch := by
  have h' := h.alloc o
  refine ⟨h'.blk, h'.cho, h'.chn, ?_, h'.rn, h'.rt, h'.sn, h'.st, h'.kf, ?_, ?_, ?_, ?_, ?_⟩
  · obtain ⟨B, h1, h2, h3⟩ := h'.ints; exact ⟨B, h1, h2, fun b hb => .inl (h3 b hb)⟩
  · rintro (q | q)
    · exact h.nw q
    · have := h.blk.lt; omega
  · rintro (q | q)
    · exact h.ng q
    · have := Blk.lt h.cho; omega
  · rintro j hj (q | q)
    · exact h.nn j hj q
    · have := (h.rn.lt j hj).2; omega
  · rintro j hj (q | q)
    · exact h.nt j hj q
    · have := (h.rt.lt j hj).2; omega
  · rintro j (q | q)
    · exact h'.lt j q
    · simp; omega
/-- fewer blocks are kept -/
theorem GAt.less (h : GAt w Pr X k fr vn vt xs ts ch) (hp : ∀ j, Pr' j → Pr j) (hi : ∀ b, b < X.g → Pr b → Pr' b) : GAt w Pr' X k fr vn vt xs ts ch := by
  refine ⟨h.blk, h.cho, h.chn, ?_, h.rn, h.rt, h.sn, h.st, h.kf, fun q => h.nw (hp _ q), fun q => h.ng (hp _ q), fun j hj q => h.nn j hj (hp _ q), fun j hj q => h.nt j hj (hp _ q), fun j hj => h.lt j (hp j hj)⟩
  obtain ⟨B, h1, h2, h3⟩ := h.ints
  exact ⟨B, h1, h2, fun b hb => hi b (by omega) (h3 b hb)⟩
theorem GAt.drew (h : GAt w Pr X k fr vn vt xs ts ch) : GAt w.drew Pr X k fr vn vt xs ts ch := h.drewN 1
theorem GSt.alloc (h : GSt w Pr X k fr) (o : Obj) : GSt (w.alloc o) Pr X k fr := by obtain ⟨a, b, c, d, e, h⟩ := h; exact ⟨a, b, c, d, e, h.alloc o⟩
theorem GSt.drewN (h : GSt w Pr X k fr) (m : Nat) : GSt (w.drewN m) Pr X k fr := by obtain ⟨a, b, c, d, e, h⟩ := h; exact ⟨a, b, c, d, e, h.drewN m⟩
theorem GSt.drew (h : GSt w Pr X k fr) : GSt w.drew Pr X k fr := by obtain ⟨a, b, c, d, e, h⟩ := h; exact ⟨a, b, c, d, e, h.drewN 1⟩
theorem GSt.more (h : GSt w Pr X k fr) (o : Obj) : GSt (w.alloc o) (fun j => Pr j ∨ j = w.heap.size) X k fr := by obtain ⟨a, b, c, d, e, h⟩ := h; exact ⟨a, b, c, d, e, h.more o⟩
theorem GSt.lt (h : GSt w Pr X k fr) : ∀ j, Pr j → j < w.heap.size := by obtain ⟨a, b, c, d, e, h⟩ := h; exact h.lt
theorem GSt.wbl (h : GSt w Pr X k fr) : X.wb < w.heap.size := by obtain ⟨a, b, c, d, e, h⟩ := h; exact h.blk.lt
theorem GSt.gl (h : GSt w Pr X k fr) : X.g < w.heap.size := by obtain ⟨a, b, c, d, e, h⟩ := h; exact Blk.lt h.cho
theorem GSt.kf (h : GSt w Pr X k fr) : k ≤ fr := by obtain ⟨a, b, c, d, e, h⟩ := h; exact h.kf
/-- back to the blocks that were kept before one was made -/
theorem GSt.back {b : Nat} (h : GSt w (fun j => Pr j ∨ j = b) X k fr) (hb : X.g < b) : GSt w Pr X k fr := by
  obtain ⟨a, b', c, d, e, h⟩ := h
  exact ⟨a, b', c, d, e, h.less (fun j q => .inl q) (fun j hj q => q.resolve_right (by omega))⟩
theorem GSt.c0 (h : GSt w Pr X k fr) : w.cell? ⟨X.wb, 0, none⟩ = some (.pointer (some ⟨X.g, 0, none⟩)) := by
  obtain ⟨a, b, c, d, e, h⟩ := h; exact h.blk.cell 0
theorem GSt.c3 (h : GSt w Pr X k fr) : w.cell? ⟨X.wb, 3, none⟩ = some (.int .i64 X.F) := by
  obtain ⟨a, b, c, d, e, h⟩ := h; exact h.blk.cell 3
end

/-- the next choice -/
theorem gnext (M : Int) (m : Nat) (hM : M = (m : Int)) (hm : 0 < m) (hm2 : m ≤ 100000) {w : World} {Pr : Nat → Prop} {X : GC} {k fr : Nat} (h : GSt w Pr X k fr) (hn : X.n ≤ maxLen) :
    Calls Tryz.prog 14 #[.pointer (some ⟨X.g, 0, none⟩), .int .i64 M] w fun e w' => ∃ r : Nat, r < m ∧ e = .returned (.int .i64 r) ∧ GSt w' Pr X k fr ∧ Keep Pr w w' := by
  obtain ⟨vn, vt, xs, ts, ch, h⟩ := h
  obtain ⟨B, hB1, hB2, hB3⟩ := h.ints
  refine (next_at M m hM hm hm2 w B X.g X.A X.n X.c ch h.cho hn h.chn hB2 hB1).mono ?_
  rintro e w' ⟨r, ch', hr, _, _, _, hch, rfl, hC, hG⟩
  have hK : Keep Pr w w' := (Keep.refl Pr w).grown hG h.lt (fun j hj => by injection hj with hj; subst hj; exact h.ng)
  refine ⟨r, hr, rfl, ⟨vn, vt, xs, ts, ch', ?_⟩, hK⟩
  exact ⟨h.blk.grown hG (fun q => by injection q with q; exact h.gw q.symm), hC, by have := h.chn; omega, h.ikeep hK, owns_other h.rn hG (fun j hj q => h.ngb (by rw [hj, ← q])), owns_other h.rt hG (fun j hj q => h.tgb (by rw [hj, ← q])), h.sn, h.st, h.kf, h.nw, h.ng, h.nn, h.nt, fun j hj => Nat.lt_of_lt_of_le (h.lt j hj) hG.size⟩

set_option maxRecDepth 100000 in
set_option maxHeartbeats 3200000 in
theorem gdigit (k : Nat) (hk : k ≤ 1000000) (w : World) :
    Calls Tryz.prog 13 #[.int .i64 k] w fun e w' => ∃ s : ByteArray, e = .returned (.string s) ∧ s.size ≤ 1 ∧ w' = w := by
  have h1 : ((k : Int).tmod 10) = ((k % 10 : Nat) : Int) := by rw [Int.tmod_eq_emod_of_nonneg (by omega)]; omega
  have h2 : k % 10 < 10 := Nat.mod_lt _ (by decide)
  generalize k % 10 = r at *
  go_enter Tryz.func13, Tryz.ntmps13
  go_wp2
  go_ret
  exact ⟨_, rfl, by simp; omega, rfl⟩

set_option maxRecDepth 100000 in
set_option maxHeartbeats 3200000 in
theorem gmark {w : World} {Pr : Nat → Prop} {X : GC} {k fr : Nat} (h : GSt w Pr X k fr) :
    Calls Tryz.prog 15 #[.pointer (some ⟨X.wb, 0, none⟩)] w fun e w' => e = .returned (.int .i64 k) ∧ w' = w := by
  obtain ⟨vn, vt, xs, ts, ch, h⟩ := h
  obtain ⟨A1, c1, rfl⟩ := owns_form h.rn
  have k1 : w.cell? ⟨X.wb, 1, none⟩ = some (.slice A1 k c1) := h.blk.cell 1
  clear h
  go_enter Tryz.func15, Tryz.ntmps15
  go_wp2
  go_ret
  exact ⟨rfl, rfl⟩

end Go.Proofs.YtkjjagmpnnnimaaGreatDoor

namespace Go.Proofs.YtkjjagmpnnnimaaGreatDoor
open Go.RowKit M

def digS (k : Nat) : ByteArray := (⟨#[48, 49, 50, 51, 52, 53, 54, 55, 56, 57]⟩ : ByteArray).extract (k % 10) (k % 10 + 1)
theorem digS_size (k : Nat) : (digS k).size ≤ 1 := by unfold digS; simp; omega
set_option maxRecDepth 100000 in
set_option maxHeartbeats 3200000 in
theorem gdig (z : Int) (k : Nat) (hz : z = (k : Int)) (hk : k ≤ 1000000) (w : World) :
    Calls Tryz.prog 13 #[.int .i64 z] w fun e w' => e = .returned (.string (digS k)) ∧ w' = w := by
  subst hz
  have h1 : ((k : Int).tmod 10) = ((k % 10 : Nat) : Int) := by rw [Int.tmod_eq_emod_of_nonneg (by omega)]; omega
  have h2 : k % 10 < 10 := Nat.mod_lt _ (by decide)
  unfold digS
  generalize k % 10 = r at *
  go_enter Tryz.func13, Tryz.ntmps13
  go_wp2
  go_ret
  exact ⟨rfl, rfl⟩

section
variable {w w' : World} {Pr Pr' : Nat → Prop} {X : GC} {k fr ch : Nat} {vn vt : Value} {xs ts : List Value}
theorem GAt.set12 (h : GAt w Pr X k fr vn vt xs ts ch) {k' : Nat} {vn' vt' : Value} {xs' ts' : List Value} (rn' : w.ownsRow 0 9 1 vn' k' xs') (rt' : w.ownsRow 0 3 1 vt' k' ts')
    (sn' : ∀ x ∈ xs', ∃ s : ByteArray, x = .string s ∧ s.size ≤ 3) (st' : ∀ x ∈ ts', ∃ z : Int, x = .int .i64 z) (kf' : k' ≤ fr) (nn' : ∀ j, vn'.ownBlock = some j → ¬ Pr j) (nt' : ∀ j, vt'.ownBlock = some j → ¬ Pr j) :
    GAt ((w.setCell ⟨X.wb, 1, none⟩ vn').setCell ⟨X.wb, 2, none⟩ vt') Pr X k' fr vn' vt' xs' ts' ch ∧ Keep Pr w ((w.setCell ⟨X.wb, 1, none⟩ vn').setCell ⟨X.wb, 2, none⟩ vt') := by
  have hK : Keep Pr w ((w.setCell ⟨X.wb, 1, none⟩ vn').setCell ⟨X.wb, 2, none⟩ vt') := ((Keep.refl Pr w).setCell (p := ⟨X.wb, 1, none⟩) h.nw _).setCell (p := ⟨X.wb, 2, none⟩) h.nw _
  have e1 : vn'.ownBlock ≠ some X.wb := own_blk_ne rn' h.blk (by decide)
  have e2 : vt'.ownBlock ≠ some X.wb := own_blk_ne rt' h.blk (by decide)
  refine ⟨⟨(h.blk.set_ 1 vn').set_ 2 vt', (Blk.far h.cho (p := ⟨X.wb, 1, none⟩) h.gw vn').far (p := ⟨X.wb, 2, none⟩) h.gw vt', h.chn, h.ikeep hK, owns_set (owns_set rn' e1 _) e1 _, owns_set (owns_set rt' e2 _) e2 _, sn', st', kf', h.nw, h.ng, nn', nt', ?_⟩, hK⟩
  intro j hj
  have := h.lt j hj
  simpa [World.setCell] using this
theorem GAt.set4 (h : GAt w Pr X k fr vn vt xs ts ch) {z : Int} (hz : z = ((fr + 1 : Nat) : Int)) :
    GAt (w.setCell ⟨X.wb, 4, none⟩ (.int .i64 z)) Pr X k (fr + 1) vn vt xs ts ch ∧ Keep Pr w (w.setCell ⟨X.wb, 4, none⟩ (.int .i64 z)) := by
  subst hz
  have hK : Keep Pr w (w.setCell ⟨X.wb, 4, none⟩ (.int .i64 ((fr + 1 : Nat) : Int))) := (Keep.refl Pr w).setCell (p := ⟨X.wb, 4, none⟩) h.nw _
  refine ⟨⟨h.blk.set_ 4 _, Blk.far h.cho (p := ⟨X.wb, 4, none⟩) h.gw _, h.chn, h.ikeep hK, owns_set h.rn h.nwb _, owns_set h.rt h.twb _, h.sn, h.st, by have := h.kf; omega, h.nw, h.ng, h.nn, h.nt, ?_⟩, hK⟩
  intro j hj
  have := h.lt j hj
  simpa [World.setCell] using this
/-- what a row looks like -/
theorem row_cases {w : World} {e : TypeId} {v : Value} {k : Nat} {xs : List Value} (h : w.ownsRow 0 e 1 v k xs) :
    (v = .slice none 0 0 ∧ k = 0 ∧ xs = []) ∨ ∃ g cap, v = .slice (some ⟨g, 0, none⟩) k cap ∧ k ≤ cap ∧ cap ≤ maxLen := by
  rcases h.2 with ⟨h1, h2⟩ | ⟨g, cap, cur, h1, _, _, h2, h3, _⟩
  · refine .inl ⟨h1, h2, ?_⟩
    have := h.1
    rw [h2] at this
    exact List.eq_nil_of_length_eq_zero (by simpa using this)
  · exact .inr ⟨g, cap, h1, h2, h3⟩
end

set_option maxRecDepth 100000 in
set_option maxHeartbeats 3200000 in
theorem greset (m : Nat) {w : World} {Pr : Nat → Prop} {X : GC} {k fr : Nat} (h : GSt w Pr X k fr) (hm : m ≤ k) :
    Calls Tryz.prog 18 #[.pointer (some ⟨X.wb, 0, none⟩), .int .i64 m] w fun e w' => e = .returned (.tuple #[]) ∧ GSt w' Pr X m fr ∧ Keep Pr w w' := by
  obtain ⟨vn, vt, xs, ts, ch, h⟩ := h
  have hxs : ∀ x ∈ xs.take (m * 1), ∃ s : ByteArray, x = .string s ∧ s.size ≤ 3 := fun x hx => h.sn x (List.mem_of_mem_take hx)
  have hts : ∀ x ∈ ts.take (m * 1), ∃ z : Int, x = .int .i64 z := fun x hx => h.st x (List.mem_of_mem_take hx)
  have hkf := h.kf
  have f1 : w.frozen? ⟨X.wb, 1, none⟩ = false := h.blk.frozen 1
  have f2 : w.frozen? ⟨X.wb, 2, none⟩ = false := h.blk.frozen 2
  have k1 : w.cell? ⟨X.wb, 1, none⟩ = some vn := h.blk.cell 1
  have k2 : w.cell? ⟨X.wb, 2, none⟩ = some vt := h.blk.cell 2
  have HXS := Lib.hid hxs
  have HTS := Lib.hid hts
  clear hxs hts
  rcases row_cases h.rn with ⟨rfl, rfl, rfl⟩ | ⟨gn, cn, rfl, hn1, hn2⟩
  · obtain rfl : m = 0 := by omega
    rcases row_cases h.rt with ⟨rfl, -, rfl⟩ | ⟨gt, ct, rfl, ht1, ht2⟩
    · have HA := Lib.hid h
      clear h
      go_enter Tryz.func18, Tryz.ntmps18
      go_wp2_with fail
      go_region
      all_goals
        go_wp2
        go_end0
        have hE := HA.out.drew.set12 HA.out.drew.rn HA.out.drew.rt HA.out.sn HA.out.st (by omega) HA.out.nn HA.out.nt
        exact ⟨rfl, ⟨_, _, _, _, _, hE.1⟩, ((Keep.refl Pr w).drewN 1).trans hE.2⟩
    · have HA := Lib.hid h
      unfold maxLen at ht2
      clear h
      go_enter Tryz.func18, Tryz.ntmps18
      go_wp2_with fail
      go_region
      all_goals
        go_wp2
        go_end0
        have hE := HA.out.drew.set12 HA.out.drew.rn (owns_take HA.out.drew.rt 0 (by omega)) HA.out.sn HTS.out (by omega) HA.out.nn HA.out.nt
        exact ⟨rfl, ⟨_, _, _, _, _, hE.1⟩, ((Keep.refl Pr w).drewN 1).trans hE.2⟩
  · unfold maxLen at hn2
    rcases row_cases h.rt with ⟨rfl, rfl, rfl⟩ | ⟨gt, ct, rfl, ht1, ht2⟩
    · obtain rfl : m = 0 := by omega
      have HA := Lib.hid h
      clear h
      go_enter Tryz.func18, Tryz.ntmps18
      go_wp2_with fail
      go_region
      all_goals
        go_wp2
        go_end0
        have hE := HA.out.drew.set12 (owns_take HA.out.drew.rn 0 (by omega)) HA.out.drew.rt HXS.out HA.out.st (by omega) HA.out.nn HA.out.nt
        exact ⟨rfl, ⟨_, _, _, _, _, hE.1⟩, ((Keep.refl Pr w).drewN 1).trans hE.2⟩
    · have HA := Lib.hid h
      unfold maxLen at ht2
      clear h
      go_enter Tryz.func18, Tryz.ntmps18
      go_wp2_with fail
      go_region
      all_goals
        go_wp2
        go_end0
        have hE := HA.out.drew.set12 (owns_take HA.out.drew.rn m hm) (owns_take HA.out.drew.rt m hm) HXS.out HTS.out (by omega) HA.out.nn HA.out.nt
        exact ⟨rfl, ⟨_, _, _, _, _, hE.1⟩, ((Keep.refl Pr w).drewN 1).trans hE.2⟩

end Go.Proofs.YtkjjagmpnnnimaaGreatDoor

namespace Go.Proofs.YtkjjagmpnnnimaaGreatDoor
open Go Go.RowKit

section
variable {P : Program} {ops : Array Oper} {Q : Exit → Act → World → Prop} {md : Region.Mode} {S : World → Prop} {D : Nat → Bool}
/-- in whatever order, and S holds behind each operation of D -/
def wpAnyD (P : Program) (md : Region.Mode) (ops : Array Oper) (Q : Exit → Act → World → Prop) (D : Nat → Bool) (S : World → Prop) : Nat → Array Bool → Act → World → Prop
  | 0, l, a, w => Region.ready md ops l = [] ∧ Q .normal a w
  | f + 1, l, a, w => (Region.ready md ops l = [] → Q .normal a w) ∧ ∀ i ∈ Region.ready md ops l, wpOp P ops Q i (fun a' w' => (D i = true → S w') ∧ wpAnyD P md ops Q D S f (l.setIfInBounds i true) a' w') a w
theorem wpAnyD.any : ∀ (f : Nat) (l : Array Bool) (a : Act) (w : World), wpAnyD P md ops Q D S f l a w → wpAny P md ops Q f l a w := by
  intro f
  induction f with
  | zero => exact fun _ _ _ h => h
  | succ f ih => exact fun l a w h => ⟨h.1, fun i hi => wpOp_mono (fun a' w' q => ih _ a' w' q.2) (h.2 i hi)⟩
theorem ready_unlisted {j i : Nat} {oj : Oper} {l : Array Bool} (hi : i ∈ Region.ready md ops l) (hj : j ∈ Region.ready md ops l) (hoj : ops[j]? = some oj) : ∀ e ∈ oj.after, Region.binds md e = true → e.on ≠ i := by
  intro e he hb hei
  obtain ⟨_, o', ho', hall⟩ := mem_ready.1 hj
  rw [hoj] at ho'
  injection ho' with ho'
  subst ho'
  have h1 := hall e he hb
  have h0 := (mem_ready.1 hi).1
  rw [hei] at h1
  rcases Nat.lt_or_ge i l.size with q | q
  · simp [q] at h0 h1; rw [h0] at h1; cases h1
  · simp [Array.getElem?_eq_none q] at h1
theorem wpAnyD_first {T : World → Prop} {i : Nat} {oi : Oper} {v : Value} (hi : ops[i]? = some oi) (hsel : ∀ (j : Nat) (o : Oper) cs b, ops[j]? = some o → o.op ≠ .select cs b)
    (hQ : ∀ c a w, Q (.panic c) (a.put oi.dst v) w → Q (.panic c) a w) (hTS : ∀ w, T w → D i = true → S w) :
    ∀ (f : Nat) (l : Array Bool) (a : Act) (w : World),
      (∀ j oj, ops[j]? = some oj → j ≠ i → l.getD j true = false → (∀ e ∈ oj.after, Region.binds md e = true → e.on ≠ i) → oi.apart ops oj = true ∧ ∀ w', (D j = true → S w') → T w') →
      i ∈ Region.ready md ops l → YieldsIf P ops T oi v a → T w →
      wpAnyD P md ops Q D S f (l.setIfInBounds i true) (a.put oi.dst v) w → wpAnyD P md ops Q D S (f + 1) l a w := by
  intro f
  induction f with
  | zero =>
    intro l a w _ hr hy hTw H
    refine ⟨fun h => (by rw [h] at hr; cases hr), fun j hj => ?_⟩
    by_cases hji : j = i
    · subst hji; exact hy.wpOp hi hTw ⟨hTS w hTw, H⟩
    · have := ready_mono hj hji
      rw [H.1] at this
      cases this
  | succ f ih =>
    intro l a w hfree hr hy hTw H
    refine ⟨fun h => (by rw [h] at hr; cases hr), fun j hj => ?_⟩
    by_cases hji : j = i
    · subst hji; exact hy.wpOp hi hTw ⟨hTS w hTw, H⟩
    · obtain ⟨hjun, oj, hoj, _⟩ := mem_ready.1 hj
      have hnot := ready_unlisted hr hj hoj
      obtain ⟨hap, hTj⟩ := hfree j oj hoj hji hjun hnot
      have h2 := wpOp_putIf hoj hap (fun cs b => hsel i oi cs b hi) (fun cs b => hsel j oj cs b hoj) hQ hy (H.2 j (ready_mono hj hji))
      refine wpOp_mono (fun a' w' q => ⟨q.2.1, ih _ a' w' (fun m om hm hmi hun hno => ?_) (ready_mono hr (Ne.symm hji)) q.1 (hTj w' q.2.1) ?_⟩) h2
      · refine hfree m om hm hmi ?_ hno
        by_cases hjm : j = m
        · subst hjm; exact hjun
        · rwa [getD_set_ne true hjm] at hun
      · rw [Array.setIfInBounds_comm _ _ hji]
        exact q.2.2
/-- what may come before number i is of D -/
def waitsD (md : Region.Mode) (ops : Array Oper) (D : Nat → Bool) (l : Array Bool) (i : Nat) : Bool :=
  (List.range ops.size).all fun j => j == i || l.getD j true || D j || match ops[j]? with | some oj => oj.after.any (fun e => Region.binds md e && e.on == i) | none => true
theorem waitsD_spec {i : Nat} {l : Array Bool} (h : waitsD md ops D l i = true) (j : Nat) (oj : Oper) (hj : ops[j]? = some oj) (hne : j ≠ i) (hun : l.getD j true = false) (hno : ∀ e ∈ oj.after, Region.binds md e = true → e.on ≠ i) : D j = true := by
  have h1 := List.all_eq_true.1 h j (List.mem_range.2 (Array.getElem?_eq_some_iff.1 hj).1)
  simp only [hj, Bool.or_eq_true, beq_iff_eq, hne, false_or, hun, Bool.false_eq_true] at h1
  rcases h1 with h1 | h1
  · exact h1
  · obtain ⟨e, he, hb⟩ := Array.any_eq_true'.1 h1
    simp only [Bool.and_eq_true, beq_iff_eq] at hb
    exact absurd hb.2 (hno e he hb.1)
/-- a load -/
theorem wpAnyD_load {i : Nat} {oi : Oper} {v : Value} {f : Nat} {l : Array Bool} {a : Act} {w : World} (hi : ops[i]? = some oi)
    (hs : Region.noSelect ops = true) (hf : Region.free md ops l i = true) (hr : (Region.ready md ops l).contains i = true) (hD : waitsD md ops D l i = true)
    (hQ : ∀ c a w, Q (.panic c) (a.put oi.dst v) w → Q (.panic c) a w) (hS : S w) (hy : YieldsIf P ops S oi v a)
    (h : wpAnyD P md ops Q D S f (l.setIfInBounds i true) (a.put oi.dst v) w) : wpAnyD P md ops Q D S (f + 1) l a w :=
  wpAnyD_first (T := S) hi (Region.noSelect_spec hs) hQ (fun _ q _ => q) f l a w (fun j oj h1 h2 h3 h4 => ⟨Region.free_spec hi hf j oj h1 h2 h3 h4, fun _ q => q (waitsD_spec hD j oj h1 h2 h3 h4)⟩) (by simpa using hr) hy hS h
/-- an operation that looks at no world -/
theorem wpAnyD_pure {i : Nat} {oi : Oper} {v : Value} {f : Nat} {l : Array Bool} {a : Act} {w : World} (hi : ops[i]? = some oi)
    (hs : Region.noSelect ops = true) (hf : Region.free md ops l i = true) (hr : (Region.ready md ops l).contains i = true) (hD : D i = false)
    (hQ : ∀ c a w, Q (.panic c) (a.put oi.dst v) w → Q (.panic c) a w) (hy : Yields P ops oi v a)
    (h : wpAnyD P md ops Q D S f (l.setIfInBounds i true) (a.put oi.dst v) w) : wpAnyD P md ops Q D S (f + 1) l a w :=
  wpAnyD_first (T := fun _ => True) hi (Region.noSelect_spec hs) hQ (fun _ _ q => by rw [hD] at q; cases q) f l a w (fun j oj h1 h2 h3 h4 => ⟨Region.free_spec hi hf j oj h1 h2 h3 h4, fun _ _ => trivial⟩) (by simpa using hr) hy.yieldsIf trivial h
def AllReadyD (P : Program) (md : Region.Mode) (ops : Array Oper) (Q : Exit → Act → World → Prop) (D : Nat → Bool) (S : World → Prop) (f : Nat) (l : Array Bool) (a : Act) (w : World) (rs : List Nat) : Prop :=
  ∀ i ∈ rs, wpOp P ops Q i (fun a' w' => (D i = true → S w') ∧ wpAnyD P md ops Q D S f (l.setIfInBounds i true) a' w') a w
theorem AllReadyD.nil {f : Nat} {l : Array Bool} {a : Act} {w : World} : AllReadyD P md ops Q D S f l a w [] := fun _ h => by cases h
theorem AllReadyD.cons {f : Nat} {l : Array Bool} {a : Act} {w : World} {i : Nat} {o : Oper} {rs : List Nat} (ho : ops[i]? = some o)
    (h : ∀ K' : Act → World → Prop, Shut (∀ a w, (D i = true → S w) → wpAnyD P md ops Q D S f (l.setIfInBounds i true) a w → K' a w) → if Region.wanted o (yielded ops a.tmps) = true then Oper.wp P o a w K' Q else K' (a.put o.dst undef) w)
    (hs : AllReadyD P md ops Q D S f l a w rs) : AllReadyD P md ops Q D S f l a w (i :: rs) := fun j hj => by
  rcases List.mem_cons.1 hj with rfl | hj
  · exact wpOp_step ho (fun K' hK => h K' (fun a w hS hW => hK a w ⟨hS, hW⟩))
  · exact hs j hj
theorem wpAnyD_ready {rs : List Nat} {f : Nat} {l : Array Bool} {a : Act} {w : World} (hr : Region.ready md ops l = rs) (hne : rs ≠ [])
    (h : AllReadyD P md ops Q D S f l a w rs) : wpAnyD P md ops Q D S (f + 1) l a w := ⟨fun h0 => absurd (hr ▸ h0) hne, hr ▸ h⟩
theorem wpAnyD_done {l : Array Bool} {a : Act} {w : World} (hr : Region.ready md ops l = []) (h : Q .normal a w) : ∀ f, wpAnyD P md ops Q D S f l a w
  | 0 => ⟨hr, h⟩
  | _ + 1 => ⟨fun _ => h, by rw [hr]; simp⟩
theorem wp_region_D {id : Nat} {a : Act} {w : World} (D : Nat → Bool) (S : World → Prop) (hm : P.follows .mixedOrders = true)
    (h : wpAnyD P .any ops Q D S ops.size (Array.replicate ops.size false) a w.drew) : (Code.region id ops true).wp P Q a w :=
  wp_region_any hm (wpAnyD.any _ _ _ _ h)
end

end Go.Proofs.YtkjjagmpnnnimaaGreatDoor
