/- The statements' types: what a state of choices is, and which types a call may return. No conditions. -/
import Derived.Test.YtcnanbmbdajcaaaDoorTyD
import Derived.Test.YtcnanbmbdajcaaaDoorCho
import Derived.Deep.RegionHeld3
namespace Go.Proofs.YtcnanbmbdajcaaaDoor
open Go.RowKit M

/-- block g holds choices, over numbers that lie below it -/
def CSt (w : World) (g : Nat) (A : Option Addr) (n c : Nat) : Prop := ∃ i B, Cho w g A n c i ∧ i ≤ n ∧ B ≤ g ∧ IntsAt w B A n
section
variable {w w' : World} {g n c : Nat} {A : Option Addr}
theorem CSt.lt (h : CSt w g A n c) : g < w.heap.size := by obtain ⟨i, B, h1, _⟩ := h; exact Blk.lt h1
theorem CSt.below (h : CSt w g A n c) (hb : Below w.heap.size w w') : CSt w' g A n c := by
  have hg := h.lt
  obtain ⟨i, B, h1, h2, h3, h4⟩ := h
  exact ⟨i, B, Blk.below h1 hb hg, h2, h3, h4.keep (Pr := (· < w.heap.size)) ⟨hb.os, hb.tape, hb.output, hb.size, hb.block⟩ (fun b q => by omega)⟩
theorem CSt.alloc (h : CSt w g A n c) (o : Obj) : CSt (w.alloc o) g A n c := h.below ((Below.refl _ _).alloc (Nat.le_refl _) o)
theorem CSt.drew (h : CSt w g A n c) : CSt w.drew g A n c := h
theorem CSt.drewN (h : CSt w g A n c) (m : Nat) : CSt (w.drewN m) g A n c := h
theorem CSt.start {w : World} {A : Option Addr} {n c : Nat} (h : InInts w A n) : CSt (w.alloc (.cells #[.slice A n c, .int .i64 0] 49)) w.heap.size A n c :=
  ⟨0, w.heap.size, Blk.new w _ _, Nat.zero_le _, Nat.le_refl _, (IntsAt.of h).keep (Pr := (· < w.heap.size)) ((Keep.refl _ w).alloc (fun _ q => q) _) (fun _ q => q)⟩
/-- the next choice -/
theorem next_st (M : Int) (m : Nat) (hM : M = (m : Int)) (hm : 0 < m) (hm2 : m ≤ 100000) (h : CSt w g A n c) (hn : n ≤ maxLen) :
    Calls Tryd.prog 25 #[.pointer (some ⟨g, 0, none⟩), .int .i64 M] w fun e w' => ∃ r : Nat, r < m ∧ e = .returned (.int .i64 r) ∧ CSt w' g A n c ∧ w.grownBy w' (some g) := by
  obtain ⟨i, B, h1, h2, h3, h4⟩ := h
  refine (next_at M m hM hm hm2 w B g A n c i h1 hn h2 h4 h3).mono ?_
  rintro e w' ⟨r, i', hr, _, _, _, hi, rfl, hC, hG⟩
  exact ⟨r, hr, rfl, ⟨i', B, hC, by omega, h3, h4.keep (Pr := (· < g)) ⟨hG.os, hG.tape, hG.output, hG.size, fun k hk => hG.block k (by have := Blk.lt h1; omega) (by intro e; injection e with e; omega)⟩ (fun b q => by omega)⟩, hG⟩
theorem row_g {base z m : Nat} {e : TypeId} {v : Value} {xs : List Value} (h : w.ownsRow base e z v m xs) (hb : g < base) : ∀ k, v.ownBlock = some k → (some g : Option Nat) ≠ some k := by
  intro k hk q
  injection q with q
  have := (h.lt k hk).1
  omega
theorem ne_g {g b : Nat} (h : g < b) : (some b : Option Nat) ≠ some g := by intro q; injection q; omega
theorem blk_in {t : TypeId} {cs : Array Value} (h : Blk w g t cs) : InC w (some ⟨g, 0, none⟩) cs.toList :=
  .inr ⟨g, 0, rfl, h.lt, fun i u hu => by rw [Nat.zero_add, h.cell]; simpa using hu⟩
end

theorem wpAnyH_stronger {P : Program} {ops : Array Oper} {Q : Exit → Act → World → Prop} {md : Region.Mode} {S S' : World → Prop} (hS : ∀ w, S' w → S w) : ∀ {f : Nat} {l : Array Bool} {a : Act} {w : World}, wpAnyH P md ops Q S' f l a w → wpAnyH P md ops Q S f l a w := by
  intro f
  induction f with
  | zero => exact fun h => h
  | succ f ih => exact fun h => ⟨h.1, fun i hi => wpOp_mono (fun a' w' q => ⟨hS _ q.1, ih q.2⟩) (h.2 i hi)⟩
/-- a type that is nested at most d deep, with the variables below V -/
def TyOK (d V : Nat) (ts : List TN) : Prop := bt d ts = some [] ∧ ts.length + 1 ≤ 2 ^ d ∧ ∀ t ∈ ts, t.1 = 1 → 0 ≤ t.2.1 ∧ t.2.1 < V
theorem tyok_leaf {d V : Nat} {k num : Int} (hd : 1 ≤ d) (hv : vN (k, num, 0) = true) (hvar : k = 1 → 0 ≤ num ∧ num < V) : TyOK d V (mkT k num []) := by
  obtain ⟨e, rfl⟩ : ∃ e, d = e + 1 := ⟨d - 1, by omega⟩
  refine ⟨bt_mk (ls := []) hv (fun l hl => by simp at hl), ?_, ?_⟩
  · have : 1 ≤ 2 ^ e := Nat.one_le_two_pow
    simp [mkT, Nat.pow_succ]; omega
  · intro t ht h1
    simp [mkT] at ht
    subst ht
    exact hvar h1
theorem tyok_one {d V : Nat} {k num : Int} {a : List TN} (hv : vN (k, num, 1) = true) (hk : k ≠ 1) (ha : TyOK d V a) : TyOK (d + 1) V (mkT k num [a]) := by
  refine ⟨bt_mk (ls := [a]) hv (fun l hl => by simp at hl; subst hl; exact ha.1), ?_, ?_⟩
  · have := ha.2.1
    simp [mkT, Nat.pow_succ]; omega
  · intro t ht h1
    simp [mkT] at ht
    rcases ht with rfl | ht
    · exact absurd h1 hk
    · exact ha.2.2 t ht h1
theorem tyok_two {d V : Nat} {k num : Int} {a b : List TN} (hv : vN (k, num, 2) = true) (hk : k ≠ 1) (ha : TyOK d V a) (hb : TyOK d V b) : TyOK (d + 1) V (mkT k num [a, b]) := by
  refine ⟨bt_mk (ls := [a, b]) hv (fun l hl => by simp at hl; rcases hl with rfl | rfl; exact ha.1; exact hb.1), ?_, ?_⟩
  · have := ha.2.1
    have := hb.2.1
    simp [mkT, Nat.pow_succ]; omega
  · intro t ht h1
    simp [mkT] at ht
    rcases ht with rfl | ht | ht
    · exact absurd h1 hk
    · exact ha.2.2 t ht h1
    · exact hb.2.2 t ht h1
/-- what typ leaves -/
def TypPost (w : World) (g : Nat) (A : Option Addr) (n c d V : Nat) (e : Ending) (w' : World) : Prop :=
  ∃ v ts, e = .returned v ∧ w'.ownsRow w.heap.size 33 3 v ts.length (ts.flatMap ndCells) ∧ TyOK d V ts ∧ CSt w' g A n c ∧ w.grownBy w' (some g)
def TypCon (d V : Nat) : Prop := ∀ (D : Int), D = (d : Int) → ∀ (w : World) (g : Nat) (A : Option Addr) (n c : Nat), CSt w g A n c → n ≤ maxLen →
  Calls Tryd.prog 5 #[.pointer (some ⟨g, 0, none⟩), .int .i64 D, .int .i64 V] w (TypPost w g A n c d V)
/-- Make's contract in the words of typ -/
theorem make_st (k num : Int) {w w0 : World} {g n c : Nat} {A : Option Addr} (L : Option Addr) (m cl : Nat) (ls : List TS) (hm : m = ls.length) (hm16 : m ≤ 16) (hL : InC w L (ls.map tsV)) (hls : ∀ p ∈ ls, InC w p.1 (p.2.2.flatMap ndCells) ∧ p.2.2.length ≤ 100000)
    (hC : CSt w g A n c) (hG : w0.grownBy w (some g)) {d V : Nat} (hT : TyOK d V (mkT k num (ls.map (·.2.2)))) :
    Calls Tryd.prog 26 #[.int .i64 k, .int .i64 num, .slice L m cl] w (TypPost w0 g A n c d V) := by
  refine (make_any k num w L m cl ls hm hm16 hL hls).mono ?_
  rintro e w' ⟨v, rfl, hown, hb⟩
  exact ⟨v, _, rfl, owns_base hown hG.size, hT, hC.below hb, only_trans hG (only_below hb _)⟩
/-- .. and what has been kept since Make's own start -/
theorem make_st2 (k num : Int) {w w0 : World} {g n c : Nat} {A : Option Addr} (L : Option Addr) (m cl : Nat) (ls : List TS) (hm : m = ls.length) (hm16 : m ≤ 16) (hL : InC w L (ls.map tsV)) (hls : ∀ p ∈ ls, InC w p.1 (p.2.2.flatMap ndCells) ∧ p.2.2.length ≤ 100000)
    (hC : CSt w g A n c) (hG : w0.grownBy w (some g)) {d V : Nat} (hT : TyOK d V (mkT k num (ls.map (·.2.2)))) :
    Calls Tryd.prog 26 #[.int .i64 k, .int .i64 num, .slice L m cl] w (fun e w' => TypPost w0 g A n c d V e w' ∧ w.grownBy w' (some g)) := by
  refine (make_any k num w L m cl ls hm hm16 hL hls).mono ?_
  rintro e w' ⟨v, rfl, hown, hb⟩
  exact ⟨⟨v, _, rfl, owns_base hown hG.size, hT, hC.below hb, only_trans hG (only_below hb _)⟩, only_below hb _⟩

end Go.Proofs.YtcnanbmbdajcaaaDoor
