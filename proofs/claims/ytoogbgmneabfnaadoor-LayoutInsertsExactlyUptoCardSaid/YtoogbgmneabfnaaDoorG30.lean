/- The choices of the statements, by Next; the statements' own source with blocks is a short string. No conditions but that a slice of numbers has a length. The statements' own tokens: a short list of tokens at small positions. No conditions but that a slice of numbers has a length. -/
import Derived.Test.YtoogbgmneabfnaaDoorG16
import Derived.Test.YtoogbgmneabfnaaDoorG25
import Derived.Test.YtoogbgmneabfnaaDoorG29
import Derived.Deep.RegionHeld3
import Derived.Deep.DeepCutAuto
import Derived.Test.YtoogbgmneabfnaaDoorG7
import Derived.Deep.RegionWith
namespace Go.Proofs.YtoogbgmneabfnaaDoor
open Go.RowKit M

/-- the numbers of a slice that came in -/
def InInts (w : World) (A : Option Addr) (n : Nat) : Prop := n = 0 ∨ ∃ (b off : Nat), A = some ⟨b, off, none⟩ ∧ b < w.heap.size ∧ ∀ k, k < n → ∃ z : Int, w.cell? ⟨b, off + k, none⟩ = some (.int .i64 z)
theorem InInts.keep {Pr : Nat → Prop} {w w' : World} {A : Option Addr} {n : Nat} (h : InInts w A n) (hk : Keep Pr w w') (hp : ∀ b, b < w.heap.size → Pr b) : InInts w' A n := by
  rcases h with h | ⟨b, off, rfl, hb, hc⟩
  · exact .inl h
  · refine .inr ⟨b, off, rfl, Nat.lt_of_lt_of_le hb hk.size, fun k hk2 => ?_⟩
    obtain ⟨z, hz⟩ := hc k hk2
    exact ⟨z, (hk.cell (hp b hb) _).trans hz⟩
theorem InInts.below {w w' : World} {A : Option Addr} {n : Nat} (h : InInts w A n) (hb : Below w.heap.size w w') : InInts w' A n :=
  h.keep (Pr := (· < w.heap.size)) ⟨hb.os, hb.tape, hb.output, hb.size, hb.block⟩ (fun _ q => q)
/-- the numbers lie below block B -/
def IntsAt (w : World) (B : Nat) (A : Option Addr) (n : Nat) : Prop := n = 0 ∨ ∃ (b off : Nat), A = some ⟨b, off, none⟩ ∧ b < B ∧ ∀ k, k < n → ∃ z : Int, w.cell? ⟨b, off + k, none⟩ = some (.int .i64 z)
theorem IntsAt.of {w : World} {A : Option Addr} {n : Nat} (h : InInts w A n) : IntsAt w w.heap.size A n := h
theorem IntsAt.keep {Pr : Nat → Prop} {w w' : World} {B : Nat} {A : Option Addr} {n : Nat} (h : IntsAt w B A n) (hk : Keep Pr w w') (hp : ∀ b, b < B → Pr b) : IntsAt w' B A n := by
  rcases h with h | ⟨b, off, rfl, hb, hc⟩
  · exact .inl h
  · refine .inr ⟨b, off, rfl, hb, fun k hk2 => ?_⟩
    obtain ⟨z, hz⟩ := hc k hk2
    exact ⟨z, (hk.cell (hp b hb) _).trans hz⟩
/-- block g holds the choices: the numbers A, n, c and how many have been taken -/
def Cho (w : World) (g : Nat) (A : Option Addr) (n c i : Nat) : Prop := Blk w g 57 #[.slice A n c, .int .i64 i]

theorem new_cho (w : World) (A : Option Addr) (n c : Nat) :
    Calls Tryd.prog 12 #[.slice A n c] w fun e w' => e = .returned (.pointer (some ⟨w.heap.size, 0, none⟩)) ∧ w' = w.alloc (.cells #[.slice A n c, .int .i64 0] 57) := by
  go_enter Tryd.func12, Tryd.ntmps12
  go_wp2
  go_ret
  exact ⟨rfl, rfl⟩

theorem left_cho (w : World) (g : Nat) (A : Option Addr) (n c i : Nat) (h : Cho w g A n c i) :
    Calls Tryd.prog 13 #[.pointer (some ⟨g, 0, none⟩)] w fun e w' => e = .returned (.bool (decide (i < n))) ∧ ∃ m, w' = w.drewN m := by
  have k0 : w.cell? ⟨g, 0, none⟩ = some (.slice A n c) := h.cell 0
  have k1 : w.cell? ⟨g, 1, none⟩ = some (.int .i64 i) := h.cell 1
  clear h
  go_enter Tryd.func13, Tryd.ntmps13
  go_wp2_with fail
  go_quiet (fail)
  go_wp2
  go_ret
  exact ⟨ret_bool (by simp), _, rfl⟩

def NextPost (m : Nat) (w : World) (g : Nat) (A : Option Addr) (n c i : Nat) (e : Ending) (w' : World) : Prop :=
  ∃ r i' : Nat, r < m ∧ i ≤ i' ∧ i' ≤ i + 1 ∧ (i < n → i' = i + 1) ∧ i' ≤ max i n ∧ e = .returned (.int .i64 r) ∧ Cho w' g A n c i' ∧ w.grownBy w' (some g)
set_option maxRecDepth 100000 in
set_option maxHeartbeats 3200000 in
theorem next_cho (m : Nat) (hm : 0 < m) (hm2 : m ≤ 100000) (w : World) (B g : Nat) (A : Option Addr) (n c i : Nat) (h : Cho w g A n c i) (hn : n ≤ maxLen) (hi : i ≤ n) (hA : IntsAt w B A n) (hB : B ≤ g) :
    Calls Tryd.prog 14 #[.pointer (some ⟨g, 0, none⟩), .int .i64 m] w (NextPost m w g A n c i) := by
  unfold maxLen at hn
  have k0 : w.cell? ⟨g, 0, none⟩ = some (.slice A n c) := h.cell 0
  have k1 : w.cell? ⟨g, 1, none⟩ = some (.int .i64 i) := h.cell 1
  have f1 : w.frozen? ⟨g, 1, none⟩ = false := h.frozen 1
  have HC := Lib.hid h
  clear h
  have HM := Lib.hid (fun v W => mod_any v m hm hm2 W)
  have HML := Lib.hid (fun v => modK_lt v m hm)
  by_cases hlt : i < n
  · rcases hA with h0 | ⟨b, off, rfl, hb, hcs⟩
    · omega
    obtain ⟨z, hz⟩ := hcs i hlt
    have hne : ¬ b = g := by omega
    clear hcs hm hm2
    go_enter Tryd.func14, Tryd.ntmps14
    go_wp2_with fail
    go_quiet (fail)
    go_wp2_with fail
    have HC2 := Lib.hid (Blk.set_ (Blk.drewN HC.out nq) 1 (.int .i64 ((i : Int) + 1)))
    have HG2 : Hid (w.grownBy ((w.drewN nq).setCell ⟨g, 1, none⟩ (.int .i64 ((i : Int) + 1))) (some g)) := only_set (only_drewN (only_refl w (some g)) nq) 1 _
    have hz2 : ((w.drewN nq).setCell ⟨g, 1, none⟩ (.int .i64 ((i : Int) + 1))).cell? ⟨b, off + i, none⟩ = some (.int .i64 z) := (World.cell?_setCell_other (w.drewN nq) ⟨g, 1, none⟩ ⟨b, off + i, none⟩ _ (fun e => by injection e with e; omega)).trans hz
    generalize (w.drewN nq).setCell ⟨g, 1, none⟩ (.int .i64 ((i : Int) + 1)) = w1 at *
    have j0 : w1.cell? ⟨g, 0, none⟩ = some (.slice (some ⟨b, off, none⟩) n c) := HC2.out.cell 0
    have j1 : w1.cell? ⟨g, 1, none⟩ = some (.int .i64 ((i : Int) + 1)) := HC2.out.cell 1
    have hw1 : IntKind.i64.wrap ((i : Int) + 1 - 1) = (i : Int) := by rw [show ((i : Int) + 1 - 1) = i by omega]; exact IntWalk.i64_in _ (by omega)
    have hw2 : ((i : Int) + 1 - 1) = i := by omega
    have b0 : (0 : Int) ≤ (i : Int) := by omega
    have b1 : (i : Int) < (n : Int) := by omega
    clear k0 k1 f1 hz
    go_quiet ((go_at_call 26; exact Calls.quiet_of_same (HM.out _ _)))
    go_wp2
    go_ret
    exact ⟨modK z m, i + 1, HML.out z, by omega, by omega, fun _ => rfl, by omega, rfl, HC2.out, only_drewN HG2.out _⟩
  · have hg : ¬ (i < n) := hlt
    go_enter Tryd.func14, Tryd.ntmps14
    go_wp2_with fail
    go_quiet (fail)
    go_wp2
    go_ret
    exact ⟨0, i, hm, by omega, by omega, fun q => absurd q hg, by omega, rfl, HC.out, only_drewN (only_refl w (some g)) _⟩

theorem next_at (M : Int) (m : Nat) (hM : M = (m : Int)) (hm : 0 < m) (hm2 : m ≤ 100000) (w : World) (B g : Nat) (A : Option Addr) (n c i : Nat) (h : Cho w g A n c i) (hn : n ≤ maxLen) (hi : i ≤ n) (hA : IntsAt w B A n) (hB : B ≤ g) :
    Calls Tryd.prog 14 #[.pointer (some ⟨g, 0, none⟩), .int .i64 M] w (NextPost m w g A n c i) := by
  subst hM
  exact next_cho m hm hm2 w B g A n c i h hn hi hA hB


/-- the choices of a call that keeps what was there -/
structure CInv (w : World) (A : Option Addr) (n c : Nat) (wr : World) (ch : Nat) : Prop where
  cho : Cho wr w.heap.size A n c ch
  chn : ch ≤ n
  ints : IntsAt wr w.heap.size A n
  below : Below w.heap.size w wr
section
variable {w wr w' : World} {A : Option Addr} {n c ch : Nat}
theorem CInv.drewN (h : CInv w A n c wr ch) (m : Nat) : CInv w A n c (wr.drewN m) ch := ⟨Blk.drewN h.cho m, h.chn, h.ints, below_drewN' h.below m⟩
theorem CInv.alloc (h : CInv w A n c wr ch) (o : Obj) : CInv w A n c (wr.alloc o) ch :=
  ⟨Blk.alloc h.cho o, h.chn, h.ints.keep (Pr := (· < wr.heap.size)) ((Keep.refl _ wr).alloc (fun _ q => q) o) (fun k hk => by have := h.below.size; omega), h.below.alloc h.below.size o⟩
theorem CInv.start (w : World) (A : Option Addr) (n c : Nat) (h : InInts w A n) : CInv w A n c (w.alloc (.cells #[.slice A n c, .int .i64 0] 57)) 0 :=
  ⟨Blk.new w _ _, Nat.zero_le _, (IntsAt.of h).keep (Pr := (· < w.heap.size)) ((Keep.refl _ w).alloc (fun _ q => q) _) (fun _ q => q), (Below.refl _ _).alloc (Nat.le_refl _) _⟩
theorem CInv.next (h : CInv w A n c wr ch) {ch' : Nat} (hc : Cho w' w.heap.size A n c ch') (hn : ch' ≤ n) (hg : wr.grownBy w' (some w.heap.size)) : CInv w A n c w' ch' :=
  ⟨hc, hn, h.ints.keep (Pr := (· < w.heap.size)) ⟨hg.os, hg.tape, hg.output, hg.size, fun k hk => hg.block k (by have := h.below.size; omega) (by intro e; injection e with e; omega)⟩ (fun _ q => q),
    below_grown h.below hg (Nat.le_refl _) (Nat.le_refl _)⟩
end
theorem next_c (M : Int) (m : Nat) (hM : M = (m : Int)) (hm : 0 < m) (hm2 : m ≤ 100000) {w wr : World} {A : Option Addr} {n c ch : Nat} (h : CInv w A n c wr ch) (hn : n ≤ maxLen) :
    Calls Tryd.prog 14 #[.pointer (some ⟨w.heap.size, 0, none⟩), .int .i64 M] wr fun e w' => ∃ r ch' : Nat, r < m ∧ e = .returned (.int .i64 r) ∧ CInv w A n c w' ch' ∧ wr.grownBy w' (some w.heap.size) := by
  refine (next_at M m hM hm hm2 wr w.heap.size w.heap.size A n c ch h.cho hn h.chn h.ints (Nat.le_refl _)).mono ?_
  rintro e w' ⟨r, ch', hr, _, _, _, hch, rfl, hC, hG⟩
  exact ⟨r, ch', hr, rfl, h.next hC (by have := h.chn; omega) hG, hG⟩

end Go.Proofs.YtoogbgmneabfnaaDoor

namespace Go.Proofs.YtoogbgmneabfnaaDoor
open Go.RowKit M

def allL : List Bs := [[108, 101, 116], [119, 105, 116, 104, 105, 110], [101, 120, 112, 111, 114, 116, 115], [109, 111, 100, 117, 108, 101], [101, 110, 100, 109, 111, 100, 117, 108, 101], [84, 105, 109, 101, 100], [101, 110, 100, 116, 105, 109, 101, 100]]
theorem allL_le (k : Nat) (h : k < 7) : (allL.getD k []).length ≤ 9 := by
  have : ∀ k : Fin 7, (allL.getD k.val []).length ≤ 9 := by decide
  exact this ⟨k, h⟩
structure TInv (w : World) (A : Option Addr) (n c : Nat) (wr : World) (v : Value) (ts : List Tok) (a b : Int) (ch : Nat) : Prop where
  cho : Cho wr w.heap.size A n c ch
  chn : ch ≤ n
  str : wr.heap[w.heap.size + 1]? = some (strBlock allL)
  pos : Blk wr (w.heap.size + 1 + 1) 29 #[.int .i64 a, .int .i64 b]
  own : wr.ownsRow (w.heap.size + 1 + 1 + 1) 37 5 v ts.length (toksCells ts)
  ints : IntsAt wr w.heap.size A n
  below : Below w.heap.size w wr
section
variable {w wr w' : World} {A : Option Addr} {n c : Nat} {v : Value} {ts : List Tok} {a b : Int} {ch : Nat}
theorem TInv.drewN (h : TInv w A n c wr v ts a b ch) (m : Nat) : TInv w A n c (wr.drewN m) v ts a b ch :=
  ⟨Blk.drewN h.cho m, h.chn, h.str, h.pos.drewN m, h.own, h.ints, below_drewN' h.below m⟩
theorem TInv.drew (h : TInv w A n c wr v ts a b ch) : TInv w A n c wr.drew v ts a b ch :=
  ⟨Blk.drew h.cho, h.chn, h.str, h.pos.drew, h.own, h.ints, below_drew h.below⟩
theorem TInv.alloc (h : TInv w A n c wr v ts a b ch) (o : Obj) : TInv w A n c (wr.alloc o) v ts a b ch :=
  ⟨Blk.alloc h.cho o, h.chn, (Below.heap_alloc _ _ _ (lt_of_some h.str)).trans h.str, h.pos.alloc o, h.own.alloc o,
    h.ints.keep (Pr := (· < wr.heap.size)) ((Keep.refl _ wr).alloc (fun _ q => q) o) (fun k hk => by have := h.below.size; omega), h.below.alloc h.below.size o⟩
/-- only the choices' block has turned -/
theorem TInv.next (h : TInv w A n c wr v ts a b ch) {ch' : Nat} (hc : Cho w' w.heap.size A n c ch') (hn : ch' ≤ n) (hg : wr.grownBy w' (some w.heap.size)) : TInv w A n c w' v ts a b ch' :=
  ⟨hc, hn, (hg.block _ (lt_of_some h.str) (by intro e; injection e with e; omega)).trans h.str, h.pos.grown hg (by intro e; injection e with e; omega),
    owns_grown h.own hg (by omega), h.ints.keep (Pr := (· < w.heap.size)) ⟨hg.os, hg.tape, hg.output, hg.size, fun k hk => hg.block k (by have := h.below.size; omega) (by intro e; injection e with e; omega)⟩ (fun _ q => q),
    below_grown h.below hg (Nat.le_refl _) (Nat.le_refl _)⟩
/-- a store into a block of the loop's own -/
theorem TInv.set (h : TInv w A n c wr v ts a b ch) {tb : Nat} (ht : w.heap.size + 1 + 1 + 1 ≤ tb) (hv : v.ownBlock ≠ some tb) (o : Nat) (u : Value) : TInv w A n c (wr.setCell ⟨tb, o, none⟩ u) v ts a b ch :=
  ⟨Blk.far (p := ⟨tb, o, none⟩) h.cho (by show w.heap.size ≠ tb; omega) u, h.chn, (Below.heap_setCell _ _ _ _ (by show w.heap.size + 1 ≠ tb; omega)).trans h.str, h.pos.far (p := ⟨tb, o, none⟩) (by show w.heap.size + 1 + 1 ≠ tb; omega) u, owns_set h.own hv u,
    h.ints.keep (Pr := (· < w.heap.size)) ((Keep.refl _ wr).setCell (p := ⟨tb, o, none⟩) (by show ¬ tb < w.heap.size; omega) u) (fun _ q => q), h.below.setCell (p := ⟨tb, o, none⟩) (by show w.heap.size ≤ tb; omega) u⟩
/-- a store into the position -/
theorem TInv.setp (h : TInv w A n c wr v ts a b ch) (o : Nat) (u : Value) (a' b' : Int) (hp : Blk (wr.setCell ⟨w.heap.size + 1 + 1, o, none⟩ u) (w.heap.size + 1 + 1) 29 #[.int .i64 a', .int .i64 b']) :
    TInv w A n c (wr.setCell ⟨w.heap.size + 1 + 1, o, none⟩ u) v ts a' b' ch :=
  ⟨Blk.far (p := ⟨w.heap.size + 1 + 1, o, none⟩) h.cho (by show w.heap.size ≠ w.heap.size + 1 + 1; omega) u, h.chn, (Below.heap_setCell _ _ _ _ (by show w.heap.size + 1 ≠ w.heap.size + 1 + 1; omega)).trans h.str, hp,
    owns_set h.own (fun q => by have := (h.own.lt _ q).1; omega) u,
    h.ints.keep (Pr := (· < w.heap.size)) ((Keep.refl _ wr).setCell (p := ⟨w.heap.size + 1 + 1, o, none⟩) (by show ¬ w.heap.size + 1 + 1 < w.heap.size; omega) u) (fun _ q => q), h.below.setCell (p := ⟨w.heap.size + 1 + 1, o, none⟩) (by show w.heap.size ≤ w.heap.size + 1 + 1; omega) u⟩
/-- behind the append -/
theorem TInv.push {w wr w' : World} {A : Option Addr} {n c : Nat} {v v' : Value} {ts ts' : List Tok} {a b : Int} {ch : Nat} (h : TInv w A n c wr v ts a b ch) (hg : wr.grownBy w' v.ownBlock)
    (ho : w'.ownsRow (w.heap.size + 1 + 1 + 1) 37 5 v' ts'.length (toksCells ts')) : TInv w A n c w' v' ts' a b ch := by
  have hne : ∀ k, k < w.heap.size + 1 + 1 + 1 → some k ≠ v.ownBlock := fun k hk e => by have := (h.own.lt k e.symm).1; omega
  refine ⟨Blk.grown h.cho hg (hne _ (by omega)), h.chn, (hg.block _ (lt_of_some h.str) (hne _ (by omega))).trans h.str, h.pos.grown hg (hne _ (by omega)), ho, ?_, ?_⟩
  · exact h.ints.keep (Pr := (· < w.heap.size)) ⟨hg.os, hg.tape, hg.output, hg.size, fun k hk => hg.block k (by have := h.below.size; omega) (hne k (by omega))⟩ (fun _ q => q)
  · exact ⟨hg.os.trans h.below.os, hg.tape.trans h.below.tape, hg.output.trans h.below.output, Nat.le_trans h.below.size hg.size, fun k hk => (hg.block k (by have := h.below.size; omega) (hne k (by omega))).trans (h.below.block k hk)⟩
end
/-- a token of the list -/
def SmallTok (t : Tok) : Prop := 1 ≤ t.2.1 ∧ t.2.1 ≤ 1000 ∧ 0 ≤ t.2.2 ∧ t.2.2 ≤ 1000 ∧ t.1.str.length ≤ 9
def TokPost (w : World) (e : Ending) (w' : World) : Prop :=
  ∃ v ts, e = .returned v ∧ w'.ownsRow w.heap.size 37 5 v ts.length (toksCells ts) ∧ ts.length ≤ 60 ∧ (∀ t ∈ ts, SmallTok t) ∧ Below w.heap.size w w'
def TRel (w : World) (A : Option Addr) (n c : Nat) (v i : Value) (wr : World) : Prop :=
  ∃ (k : Nat) (ts : List Tok) (a b : Int) (ch : Nat), i = .int .i64 k ∧ k ≤ 60 ∧ ts.length = k ∧ (∀ t ∈ ts, SmallTok t) ∧ 1 ≤ a ∧ a ≤ 1 + 2 * k ∧ 0 ≤ b ∧ b ≤ 12 + 4 * k ∧ TInv w A n c wr v ts a b ch

set_option maxRecDepth 100000 in
set_option maxHeartbeats 6400000 in
theorem tokens_any (w : World) (A : Option Addr) (n c : Nat) (hA : InInts w A n) (hn : n ≤ maxLen) :
    Calls Tryd.prog 6 #[.slice A n c] w (TokPost w) := by
  have HA := Lib.hid hA
  have HN := Lib.hid hn
  clear hA hn
  go_enter Tryd.func6, Tryd.ntmps6
  go_wp2_with fail
  refine (new_cho w A n c).mono ?_
  rintro e w0 ⟨rfl, rfl⟩
  go_wp2_with fail
  go_loopw [5, 7] (fun v i wr => TRel w A n c v i wr) (fun _ i _ => 60 - (intOf i).toNat)
  case atStart =>
    refine ⟨0, [], 1, 1, 0, rfl, by omega, rfl, by simp, by omega, by omega, by omega, by omega, ?_⟩
    have hw1 : ∀ (o : Obj), (w.alloc o).heap.size = w.heap.size + 1 := fun o => by simp
    refine ⟨?_, by omega, ?_, ?_, World.ownsRow_nil _ _ _ _, ?_, ?_⟩
    · exact ((Blk.new w _ _).alloc _).alloc _
    · rw [Below.heap_alloc _ _ _ (by simp)]
      exact heap_new2 w _ _
    · have := Blk.new ((w.alloc (.cells #[.slice A n c, .int .i64 0] 57)).alloc (strBlock allL)) 29 #[.int .i64 1, .int .i64 1]
      rw [show ((w.alloc (.cells #[.slice A n c, .int .i64 0] 57)).alloc (strBlock allL)).heap.size = w.heap.size + 1 + 1 by simp] at this
      exact this
    · exact (IntsAt.of HA.out).keep (Pr := (· < w.heap.size)) ((((Keep.refl _ w).alloc (fun _ q => q) _).alloc (fun _ q => q) _).alloc (fun _ q => q) _) (fun _ q => q)
    · exact (((Below.refl _ _).alloc (Nat.le_refl _) _).alloc (by simp) _).alloc (by simp; omega) _
  case round =>
    obtain ⟨k, ts, a, b, ch, rfl, hk, hts, hsm, ha1, ha2, hb1, hb2, hT⟩ := hrel
    have HT := Lib.hid hT
    have HSM := Lib.hid hsm
    have HTS := Lib.hid hts
    clear hT hsm hts
    go_wp2_with fail
    refine (left_cho wr w.heap.size A n c ch HT.out.cho).mono ?_
    rintro e w1 ⟨rfl, m1, rfl⟩
    have HT1 := Lib.hid (HT.out.drewN m1)
    generalize wr.drewN m1 = w1 at *
    by_cases hlt : ch < n ∧ k < 60
    · obtain ⟨hc1, hk1⟩ := hlt
      have p0 : w1.cell? ⟨w.heap.size + 1 + 1, 0, none⟩ = some (.int .i64 a) := HT1.out.pos.cell 0
      have p1 : w1.cell? ⟨w.heap.size + 1 + 1, 1, none⟩ = some (.int .i64 b) := HT1.out.pos.cell 1
      have hz1 : w.heap.size + 1 + 1 < w1.heap.size := HT1.out.pos.lt
      have HT2 := Lib.hid (HT1.out.alloc (.cells #[.int .i64 1, .int .i64 0, .string ⟨#[120]⟩, .int .i64 a, .int .i64 b] 37 (0, 0)))
      have htb := Blk.new w1 37 #[.int .i64 1, .int .i64 0, .string ⟨#[120]⟩, .int .i64 a, .int .i64 b]
      have hvb : u5.ownBlock ≠ some w1.heap.size := own_fresh HT1.out.own (Nat.le_refl _)
      have HVB := Lib.hid hvb
      have HTB := Lib.hid htb
      clear htb hvb
      go_wp2_with fail
      refine (next_at 16 16 rfl (by decide) (by decide) _ w.heap.size w.heap.size A n c ch HT2.out.cho HN.out HT2.out.chn HT2.out.ints (Nat.le_refl _)).mono ?_
      rintro e w2 ⟨r, ch2, hr, _, _, _, hch2, rfl, hC2, hG2⟩
      have HT3 := Lib.hid (HT2.out.next hC2 (by omega) hG2)
      have HTB2 : Hid (Blk w2 w1.heap.size 37 #[.int .i64 1, .int .i64 0, .string ⟨#[120]⟩, .int .i64 a, .int .i64 b]) := HTB.out.grown hG2 (by intro e; injection e with e; omega)
      have hz2 : w1.heap.size < w2.heap.size := HTB2.out.lt
      clear hC2 hG2 p0 p1
      go_upto_if 29 with (fail)
      go_cut [] (fun wx => ∃ (kd : Int) (st : Bs), st.length ≤ 9 ∧ TInv w A n c wx u5 ts a b ch2 ∧ Blk wx w1.heap.size 37 #[.int .i64 kd, .int .i64 0, .string (S st), .int .i64 a, .int .i64 b])
      case first =>
        have s2 := hz2
        have q0 : w2.cell? ⟨w.heap.size + 1 + 1, 0, none⟩ = some (.int .i64 a) := HT3.out.pos.cell 0
        have q1 : w2.cell? ⟨w.heap.size + 1 + 1, 1, none⟩ = some (.int .i64 b) := HT3.out.pos.cell 1
        have hvb2 : u5.ownBlock ≠ some w1.heap.size := HVB.out
        by_cases hr7 : r < 7
        · have hst : w2.cell? ⟨w.heap.size + 1, r, none⟩ = some (.string (S (allL.getD r []))) := str_cell HT3.out.str r (show r < allL.length from hr7)
          have hle := allL_le r hr7
          have e0 : w2.cell? ⟨w1.heap.size, 0, none⟩ = some (.int .i64 1) := HTB2.out.cell 0
          have e1 : w2.cell? ⟨w1.heap.size, 1, none⟩ = some (.int .i64 0) := HTB2.out.cell 1
          have e2 : w2.cell? ⟨w1.heap.size, 2, none⟩ = some (.string ⟨#[120]⟩) := HTB2.out.cell 2
          have e3 : w2.cell? ⟨w1.heap.size, 3, none⟩ = some (.int .i64 a) := HTB2.out.cell 3
          have e4 : w2.cell? ⟨w1.heap.size, 4, none⟩ = some (.int .i64 b) := HTB2.out.cell 4
          have ef : ∀ i, w2.frozen? ⟨w1.heap.size, i, none⟩ = false := fun i => HTB2.out.frozen i
          generalize allL.getD r [] = st at *
          have b0 : (0 : Int) ≤ (r : Int) := by omega
          have b7 : (r : Int) < 7 := by omega
          go_wp2_with fail
          go_region
          all_goals
            go_wp2_with fail
            go_meet
            refine ⟨3, st, hle, ?_, ?_⟩
            · exact ((((((HT3.out.set (by omega) hvb2 0 _).set (by omega) hvb2 1 _).set (by omega) hvb2 2 _).set (by omega) hvb2 3 _).set (by omega) hvb2 4 _)).drew
            · exact (((((HTB2.out.set_ 0 (.int .i64 3)).set_ 1 (.int .i64 0)).set_ 2 (.string (S st))).set_ 3 (.int .i64 a)).set_ 4 (.int .i64 b)).drew
        · go_wp2_with fail
          go_meet
          exact ⟨1, [120], by decide, HT3.out, HTB2.out⟩
      case rest =>
        obtain ⟨kd, st, hst, hT4, hTB4⟩ := hcut
        have HT4 := Lib.hid hT4
        have HTB4 := Lib.hid hTB4
        clear hT4 hTB4
        clear HTB HTB2 HT3 HT2 HT1 HT
        go_wp2_with fail
        refine (next_at 30 30 rfl (by decide) (by decide) _ w.heap.size w.heap.size A n c ch2 HT4.out.cho HN.out HT4.out.chn HT4.out.ints (Nat.le_refl _)).mono ?_
        rintro e w3 ⟨r3, ch3, hr3, _, _, _, hch3, rfl, hC3, hG3⟩
        have hzw : w1.heap.size < wc.heap.size := HTB4.out.lt
        have HT5 := Lib.hid (HT4.out.next hC3 (by omega) hG3)
        have HTB5 : Hid (Blk w3 w1.heap.size 37 #[.int .i64 kd, .int .i64 0, .string (S st), .int .i64 a, .int .i64 b]) := HTB4.out.grown hG3 (by intro e; injection e with e; omega)
        have hz3 : w1.heap.size < w3.heap.size := HTB5.out.lt
        clear hC3 hG3 HT4 HTB4
        go_upto_if 38 with (fail)
        go_cut [] (fun wx => ∃ (b2 : Int), (b2 = b ∨ b2 = 0) ∧ TInv w A n c wx u5 ts a b ch3 ∧ Blk wx w1.heap.size 37 #[.int .i64 kd, .int .i64 0, .string (S st), .int .i64 a, .int .i64 b2])
        case first =>
          have e4 : w3.cell? ⟨w1.heap.size, 4, none⟩ = some (.int .i64 b) := HTB5.out.cell 4
          have ef : ∀ i, w3.frozen? ⟨w1.heap.size, i, none⟩ = false := fun i => HTB5.out.frozen i
          by_cases h29 : r3 = 29
          · have g1 : ((r3 : Int) == 29) = true := beq_iff_eq.2 (by omega)
            clear h29
            go_wp2_with fail
            go_meet
            exact ⟨0, .inr rfl, HT5.out.set (by omega) HVB.out 4 _, HTB5.out.set_ 4 (.int .i64 0)⟩
          · have g1 : ((r3 : Int) == 29) = false := beq_eq_false_iff_ne.2 (by omega)
            clear h29
            go_wp2_with fail
            go_meet
            exact ⟨b, .inl rfl, HT5.out, HTB5.out⟩
        case rest =>
          obtain ⟨b2, hb2', hT6, hTB6⟩ := hcut
          have HT6 := Lib.hid hT6
          have HTB6 := Lib.hid hTB6
          have e0 : wc.cell? ⟨w1.heap.size, 0, none⟩ = some (.int .i64 kd) := hTB6.cell 0
          have e1 : wc.cell? ⟨w1.heap.size, 1, none⟩ = some (.int .i64 0) := hTB6.cell 1
          have e2 : wc.cell? ⟨w1.heap.size, 2, none⟩ = some (.string (S st)) := hTB6.cell 2
          have e3 : wc.cell? ⟨w1.heap.size, 3, none⟩ = some (.int .i64 a) := hTB6.cell 3
          have e4 : wc.cell? ⟨w1.heap.size, 4, none⟩ = some (.int .i64 b2) := hTB6.cell 4
          obtain ⟨A5, c5, rfl⟩ := owns_form hT6.own
          obtain ⟨i0, hi0, hz0', hz1', hz2'⟩ := info_parts token_info
          have hzc : w.heap.size + 1 + 1 < wc.heap.size := hT6.pos.lt
          have htl : ts.length ≤ 60 := by have := HTS.out; omega
          clear hT6 hTB6 HT5 HTB5
          go_wp2_with (at_builtin; refine wpList_append_lies _ rfl _ _ 22 rfl (w.heap.size + 1 + 1 + 1) 37 i0 _ 5 48 Tryd.underlying22 hi0 hz0' hz1' hz2' rfl (by omega) _ _ _ rfl (HT6.out.own.alloc _) ⟨wc.heap.size, 0, none⟩ 1 1 (tokCells (⟨kd, 0, st, 0⟩, (a, b2))) rfl rfl (World.news_of_block (cs := #[.int .i64 kd, .int .i64 0, .string (S st), .int .i64 a, .int .i64 b2]) (t := 37) (fr := (0, 0)) (heap_alloc_new wc _)) (tok_one _) (by omega) (by unfold maxLen; omega) (by omega) (by simp; omega) (wc.heap.size + 1) (by simp) ?_; intro gg cap w5 hown5 hgrow5 hat5 hlt5)
          have hT7 : TInv w A n c w5 (.slice (some ⟨gg, 0, none⟩) (ts.length + 1) cap) (ts ++ [(⟨kd, 0, st, 0⟩, (a, b2))]) a b ch3 := by
            refine (HT6.out.alloc (.cells #[.int .i64 kd, .int .i64 0, .string (S st), .int .i64 a, .int .i64 b2] 37)).push hgrow5 ?_
            rw [List.length_append, ← toks_snoc]
            exact hown5
          have HT7 := Lib.hid hT7
          have hnew : SmallTok (⟨kd, 0, st, 0⟩, (a, b2)) := ⟨ha1, by simp only; omega, by simp only; omega, by simp only; omega, hst⟩
          have HNEW := Lib.hid hnew
          clear hT7 hnew hown5 hgrow5 hat5 hlt5 e0 e1 e2 e3 e4 HT6 HTB6
          refine (next_at 2 2 rfl (by decide) (by decide) _ w.heap.size w.heap.size A n c ch3 HT7.out.cho HN.out HT7.out.chn HT7.out.ints (Nat.le_refl _)).mono ?_
          rintro e w6 ⟨r5, ch5, hr5, _, _, _, hch5, rfl, hC5, hG5⟩
          have HT8 := Lib.hid (HT7.out.next hC5 (by omega) hG5)
          clear hC5 hG5 HT7
          have q0 : w6.cell? ⟨w.heap.size + 1 + 1, 0, none⟩ = some (.int .i64 a) := HT8.out.pos.cell 0
          have q1 : w6.cell? ⟨w.heap.size + 1 + 1, 1, none⟩ = some (.int .i64 b) := HT8.out.pos.cell 1
          have hz6 : w.heap.size + 1 + 1 < w6.heap.size := HT8.out.pos.lt
          by_cases h0 : r5 = 0
          · have g1 : ((r5 : Int) == 0) = true := beq_iff_eq.2 (by omega)
            clear h0
            go_wp2_with fail
            first | go_region_law (first | (go_simp; go_at_call 14; refine (next_at 4 4 rfl (by decide) (by decide) _ w.heap.size w.heap.size A n c ch5 HT8.out.drew.cho HN.out HT8.out.chn HT8.out.drew.ints (Nat.le_refl _)).mono ?_; rintro e w7 ⟨r7, ch7, hr7, _, _, _, hch7, rfl, hC7, hG7⟩; have HT9 := Lib.hid (HT8.out.drew.next hC7 (by omega) hG7); have y0 : w7.cell? ⟨w.heap.size + 1 + 1, 0, none⟩ = some (.int .i64 a) := HT9.out.pos.cell 0; have y1 : w7.cell? ⟨w.heap.size + 1 + 1, 1, none⟩ = some (.int .i64 b) := HT9.out.pos.cell 1; have yf : ∀ i, w7.frozen? ⟨w.heap.size + 1 + 1, i, none⟩ = false := fun i => HT9.out.pos.frozen i; clear hC7 hG7)) | done
            all_goals
              go_wp2_with fail
              go_roundw
              case rel =>
                refine ⟨k + 1, ts ++ [(⟨kd, 0, st, 0⟩, (a, b2))], a, b + (1 + r7), ch7, by go_num, by omega, ?_, ?_, by omega, by omega, by omega, by omega, HT9.out.setp 1 _ a (b + (1 + r7)) (HT9.out.pos.set_ 1 (.int .i64 (b + (1 + r7))))⟩
                · simp; exact HTS.out
                · intro t ht
                  rcases List.mem_append.1 ht with ht | ht
                  · exact HSM.out t ht
                  · rw [List.mem_singleton] at ht; subst ht; exact HNEW.out
              case measure => simp [intOf]; omega
          · have g1 : ((r5 : Int) == 0) = false := beq_eq_false_iff_ne.2 (by omega)
            clear h0
            go_wp2_with fail
            first | go_region_law (first | (go_simp; go_at_call_of 14 (Value.int .i64 2); refine (next_at 2 2 rfl (by decide) (by decide) _ w.heap.size w.heap.size A n c ch5 HT8.out.drew.cho HN.out HT8.out.chn HT8.out.drew.ints (Nat.le_refl _)).mono ?_; rintro e w7 ⟨r7, ch7, hr7, _, _, _, hch7, rfl, hC7, hG7⟩; have HT9 := Lib.hid (HT8.out.drew.next hC7 (by omega) hG7); have y0 : w7.cell? ⟨w.heap.size + 1 + 1, 0, none⟩ = some (.int .i64 a) := HT9.out.pos.cell 0; have y1 : w7.cell? ⟨w.heap.size + 1 + 1, 1, none⟩ = some (.int .i64 b) := HT9.out.pos.cell 1; clear hC7 hG7) | (go_simp; go_at_call_of 14 (Value.int .i64 12); refine (next_at 12 12 rfl (by decide) (by decide) _ w.heap.size w.heap.size A n c ch7 HT9.out.cho HN.out HT9.out.chn HT9.out.ints (Nat.le_refl _)).mono ?_; rintro e w8 ⟨r8, ch8, hr8, _, _, _, hch8, rfl, hC8, hG8⟩; have HT10 := Lib.hid (HT9.out.next hC8 (by omega) hG8); have z0 : w8.cell? ⟨w.heap.size + 1 + 1, 0, none⟩ = some (.int .i64 a) := HT10.out.pos.cell 0; have z1 : w8.cell? ⟨w.heap.size + 1 + 1, 1, none⟩ = some (.int .i64 b) := HT10.out.pos.cell 1; have zf : ∀ i, w8.frozen? ⟨w.heap.size + 1 + 1, i, none⟩ = false := fun i => HT10.out.pos.frozen i; clear hC8 hG8)) | done
            all_goals
              go_wp2_with fail
              go_roundw
              case rel =>
                refine ⟨k + 1, ts ++ [(⟨kd, 0, st, 0⟩, (a, b2))], a + 1 + r7, 1 + r8, ch8, by go_num, by omega, ?_, ?_, by omega, by omega, by omega, by omega, (HT10.out.setp 0 _ (a + 1 + r7) b (HT10.out.pos.set_ 0 (.int .i64 (a + 1 + r7)))).setp 1 _ (a + 1 + r7) (1 + r8) ((HT10.out.pos.set_ 0 (.int .i64 (a + 1 + r7))).set_ 1 (.int .i64 (1 + r8)))⟩
                · simp; exact HTS.out
                · intro t ht
                  rcases List.mem_append.1 ht with ht | ht
                  · exact HSM.out t ht
                  · rw [List.mem_singleton] at ht; subst ht; exact HNEW.out
              case measure => simp [intOf]; omega
    · have hend : Hid (ts.length ≤ 60) := by have := HTS.out; unfold Hid; omega
      obtain ⟨A5, c5, rfl⟩ := owns_form HT1.out.own
      have hcase : ¬ ch < n ∨ (ch < n ∧ 60 ≤ k) := by omega
      rcases hcase with hc | ⟨hc, hk2⟩
      all_goals
        go_wp2_with fail
        go_ret
        exact ⟨_, ts, rfl, owns_base HT1.out.own (by omega), hend.out, HSM.out, HT1.out.below⟩

end Go.Proofs.YtoogbgmneabfnaaDoor
