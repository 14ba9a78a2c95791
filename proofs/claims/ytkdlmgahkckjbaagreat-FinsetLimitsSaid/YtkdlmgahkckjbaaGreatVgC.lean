/- The statements' Value: a value that is nested at most so deep, and short. Condition: at most seven levels. -/
-- by tools/gen_vgc.py
import Derived.Test.YtkdlmgahkckjbaaGreatCho
import Derived.Test.YtkdlmgahkckjbaaGreatVgM
import Derived.Test.YtkdlmgahkckjbaaGreatVrO
namespace Go.Proofs.YtkdlmgahkckjbaaGreat
open Go.RowKit

/-- block g holds choices, over numbers that lie below it -/
def CSt (w : World) (g : Nat) (A : Option Addr) (n c : Nat) : Prop := ∃ i B, Cho w g A n c i ∧ i ≤ n ∧ B ≤ g ∧ IntsAt w B A n
section
variable {w w' : World} {g n c : Nat} {A : Option Addr}
theorem CSt.lt (h : CSt w g A n c) : g < w.heap.size := by obtain ⟨i, B, h1, _⟩ := h; exact Blk.lt h1
theorem CSt.below (h : CSt w g A n c) (hb : Below w.heap.size w w') : CSt w' g A n c := by
  have hg := h.lt
  obtain ⟨i, B, h1, h2, h3, h4⟩ := h
  exact ⟨i, B, Blk.below h1 hb hg, h2, h3, h4.keep (Pr := (· < w.heap.size)) ⟨hb.os, hb.tape, hb.output, hb.size, hb.block⟩ (fun b q => by omega)⟩
theorem CSt.alloc (h : CSt w g A n c) (o : Obj) : CSt (w.alloc o) g A n c := h.below ((Below.refl _ _).alloc (Nat.le_refl _) o)
theorem CSt.drew (h : CSt w g A n c) : CSt w.drew g A n c := h
theorem CSt.drewN (h : CSt w g A n c) (m : Nat) : CSt (w.drewN m) g A n c := h
theorem CSt.start {w : World} {A : Option Addr} {n c : Nat} (h : InInts w A n) : CSt (w.alloc (.cells #[.slice A n c, .int .i64 0] 38)) w.heap.size A n c :=
  ⟨0, w.heap.size, Blk.new w _ _, Nat.zero_le _, Nat.le_refl _, (IntsAt.of h).keep (Pr := (· < w.heap.size)) ((Keep.refl _ w).alloc (fun _ q => q) _) (fun _ q => q)⟩
/-- the next choice -/
theorem next_st (M : Int) (m : Nat) (hM : M = (m : Int)) (hm : 0 < m) (hm2 : m ≤ 100000) (h : CSt w g A n c) (hn : n ≤ maxLen) :
    Calls Tryz.prog 6 #[.pointer (some ⟨g, 0, none⟩), .int .i64 M] w fun e w' => ∃ r : Nat, r < m ∧ e = .returned (.int .i64 r) ∧ CSt w' g A n c ∧ w.grownBy w' (some g) := by
  obtain ⟨i, B, h1, h2, h3, h4⟩ := h
  refine (next_at M m hM hm hm2 w B g A n c i h1 hn h2 h4 h3).mono ?_
  rintro e w' ⟨r, i', hr, _, _, _, hi, rfl, hC, hG⟩
  exact ⟨r, hr, rfl, ⟨i', B, hC, by omega, h3, h4.keep (Pr := (· < g)) ⟨hG.os, hG.tape, hG.output, hG.size, fun k hk => hG.block k (by have := Blk.lt h1; omega) (by intro e; injection e with e; omega)⟩ (fun b q => by omega)⟩, hG⟩
theorem row_g {base z m : Nat} {e : TypeId} {v : Value} {xs : List Value} (h : w.ownsRow base e z v m xs) (hb : g < base) : ∀ k, v.ownBlock = some k → (some g : Option Nat) ≠ some k := by
  intro k hk q
  injection q with q
  have := (h.lt k hk).1
  omega
theorem ne_g {g b : Nat} (h : g < b) : (some b : Option Nat) ≠ some g := by intro q; injection q; omega
theorem blk_in {t : TypeId} {cs : Array Value} (h : Blk w g t cs) : InC w (some ⟨g, 0, none⟩) cs.toList :=
  .inr ⟨g, 0, rfl, h.lt, fun i u hu => by rw [Nat.zero_add, h.cell]; simpa using hu⟩
end

theorem next_n (m : Nat) (hm : 0 < m) (hm2 : m ≤ 100000) {w : World} {g n c : Nat} {A : Option Addr} (h : CSt w g A n c) (hn : n ≤ maxLen) :
    Calls Tryz.prog 6 #[.pointer (some ⟨g, 0, none⟩), .int .i64 (m : Int)] w fun e w' => ∃ r : Nat, r < m ∧ e = .returned (.int .i64 r) ∧ CSt w' g A n c ∧ w.grownBy w' (some g) := next_st m m rfl hm hm2 h hn
end Go.Proofs.YtkdlmgahkckjbaaGreat
namespace Go.Proofs.YtkdlmgahkckjbaaGreat
open Go.RowKit VM

section
variable {w w' wr : World} {g n c : Nat} {A : Option Addr}
theorem only_row {v : Value} (h : w.grownBy wr (some g)) (k : wr.grownBy w' v.ownBlock) (hv : ∀ j, v.ownBlock = some j → w.heap.size ≤ j) : w.grownBy w' (some g) :=
  ⟨k.os.trans h.os, k.tape.trans h.tape, k.output.trans h.output, Nat.le_trans h.size k.size, fun i hi hne => (k.block i (Nat.lt_of_lt_of_le hi h.size) (fun e => by have := hv i e.symm; omega)).trans (h.block i hi hne)⟩
theorem CSt.row {row : Option Nat} (h : CSt w g A n c) (k : w.grownBy w' row) (hr : ∀ j, row = some j → g < j) : CSt w' g A n c := by
  have hg := h.lt
  obtain ⟨i, B, h1, h2, h3, h4⟩ := h
  exact ⟨i, B, Blk.grown h1 k (fun e => by have := hr g e.symm; omega), h2, h3, h4.keep (Pr := (· ≤ g)) ⟨k.os, k.tape, k.output, k.size, fun j hj => k.block j (by omega) (fun e => by have := hr j e.symm; omega)⟩ (fun b q => by omega)⟩
end
/-- what Value leaves -/
def GvPost (w : World) (g : Nat) (A : Option Addr) (n c d : Nat) (e : Ending) (w' : World) : Prop :=
  ∃ s, e = .returned (.string s) ∧ ValOK d s ∧ CSt w' g A n c ∧ w.grownBy w' (some g)
/-- what Values leaves -/
def GsPost (w : World) (g : Nat) (A : Option Addr) (n c d m : Nat) (e : Ending) (w' : World) : Prop :=
  ∃ (B : Option Addr) (cb L : Nat) (l : List ByteArray), e = .returned (.slice B L cb) ∧ L = l.length ∧ L < m ∧ (∀ s ∈ l, ValOK d s) ∧ w'.ownsRow w.heap.size 27 1 (.slice B L cb) L (l.map Value.string) ∧ CSt w' g A n c ∧ w.grownBy w' (some g)
/-- one string more in a row of the call's own -/
theorem grow_all {w wr : World} {g n c : Nat} {A : Option Addr} {v : Value} {L : Nat} {xs : List Value} (hC : CSt wr g A n c) (hG : w.grownBy wr (some g)) (hgl : g < w.heap.size) (s : ByteArray)
    (hO : wr.ownsRow w.heap.size 27 1 v L xs) {w4 : World} (hgrow : (wr.alloc (.cells #[.string s] 27)).grownBy w4 v.ownBlock) : CSt w4 g A n c ∧ w.grownBy w4 (some g) :=
  ⟨(hC.alloc _).row hgrow (fun j hj => by have := (hO.lt j hj).1; omega), only_row (only_alloc hG _) hgrow (fun j hj => (hO.lt j hj).1)⟩
end Go.Proofs.YtkdlmgahkckjbaaGreat
namespace Go.Proofs.YtkdlmgahkckjbaaGreat
open Go.RowKit VM

end Go.Proofs.YtkdlmgahkckjbaaGreat
