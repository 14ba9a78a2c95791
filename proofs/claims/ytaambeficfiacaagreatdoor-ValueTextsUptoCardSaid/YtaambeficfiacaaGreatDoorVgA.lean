/- The statements' numbers: Choices.Number. No conditions but that a slice of numbers has a length. -/
import Derived.Test.YtaambeficfiacaaGreatDoorCho
namespace Go.Proofs.YtaambeficfiacaaGreatDoor
open Go.RowKit

/-- block g holds choices, over numbers that lie below it -/
def CSt (w : World) (g : Nat) (A : Option Addr) (n c : Nat) : Prop := ∃ i B, Cho w g A n c i ∧ i ≤ n ∧ B ≤ g ∧ IntsAt w B A n
section
variable {w w' : World} {g n c : Nat} {A : Option Addr}
theorem CSt.lt (h : CSt w g A n c) : g < w.heap.size := by obtain ⟨i, B, h1, _⟩ := h; exact Blk.lt h1
theorem CSt.below (h : CSt w g A n c) (hb : Below w.heap.size w w') : CSt w' g A n c := by
  have hg := h.lt
  obtain ⟨i, B, h1, h2, h3, h4⟩ := h
  exact ⟨i, B, Blk.below h1 hb hg, h2, h3, h4.keep (Pr := (· < w.heap.size)) ⟨hb.os, hb.tape, hb.output, hb.size, hb.block⟩ (fun b q => by omega)⟩
theorem CSt.alloc (h : CSt w g A n c) (o : Obj) : CSt (w.alloc o) g A n c := h.below ((Below.refl _ _).alloc (Nat.le_refl _) o)
theorem CSt.drew (h : CSt w g A n c) : CSt w.drew g A n c := h
theorem CSt.drewN (h : CSt w g A n c) (m : Nat) : CSt (w.drewN m) g A n c := h
theorem CSt.start {w : World} {A : Option Addr} {n c : Nat} (h : InInts w A n) : CSt (w.alloc (.cells #[.slice A n c, .int .i64 0] 32)) w.heap.size A n c :=
  ⟨0, w.heap.size, Blk.new w _ _, Nat.zero_le _, Nat.le_refl _, (IntsAt.of h).keep (Pr := (· < w.heap.size)) ((Keep.refl _ w).alloc (fun _ q => q) _) (fun _ q => q)⟩
/-- the next choice -/
theorem next_st (M : Int) (m : Nat) (hM : M = (m : Int)) (hm : 0 < m) (hm2 : m ≤ 100000) (h : CSt w g A n c) (hn : n ≤ maxLen) :
    Calls Tryz.prog 9 #[.pointer (some ⟨g, 0, none⟩), .int .i64 M] w fun e w' => ∃ r : Nat, r < m ∧ e = .returned (.int .i64 r) ∧ CSt w' g A n c ∧ w.grownBy w' (some g) := by
  obtain ⟨i, B, h1, h2, h3, h4⟩ := h
  refine (next_at M m hM hm hm2 w B g A n c i h1 hn h2 h4 h3).mono ?_
  rintro e w' ⟨r, i', hr, _, _, _, hi, rfl, hC, hG⟩
  exact ⟨r, hr, rfl, ⟨i', B, hC, by omega, h3, h4.keep (Pr := (· < g)) ⟨hG.os, hG.tape, hG.output, hG.size, fun k hk => hG.block k (by have := Blk.lt h1; omega) (by intro e; injection e with e; omega)⟩ (fun b q => by omega)⟩, hG⟩
theorem row_g {base z m : Nat} {e : TypeId} {v : Value} {xs : List Value} (h : w.ownsRow base e z v m xs) (hb : g < base) : ∀ k, v.ownBlock = some k → (some g : Option Nat) ≠ some k := by
  intro k hk q
  injection q with q
  have := (h.lt k hk).1
  omega
theorem ne_g {g b : Nat} (h : g < b) : (some b : Option Nat) ≠ some g := by intro q; injection q; omega
theorem blk_in {t : TypeId} {cs : Array Value} (h : Blk w g t cs) : InC w (some ⟨g, 0, none⟩) cs.toList :=
  .inr ⟨g, 0, rfl, h.lt, fun i u hu => by rw [Nat.zero_add, h.cell]; simpa using hu⟩
end

theorem next_n (m : Nat) (hm : 0 < m) (hm2 : m ≤ 100000) {w : World} {g n c : Nat} {A : Option Addr} (h : CSt w g A n c) (hn : n ≤ maxLen) :
    Calls Tryz.prog 9 #[.pointer (some ⟨g, 0, none⟩), .int .i64 (m : Int)] w fun e w' => ∃ r : Nat, r < m ∧ e = .returned (.int .i64 r) ∧ CSt w' g A n c ∧ w.grownBy w' (some g) := next_st m m rfl hm hm2 h hn
set_option maxRecDepth 100000 in
set_option maxHeartbeats 3200000 in
theorem number_st {w : World} {g n c : Nat} {A : Option Addr} (hC : CSt w g A n c) (hn : n ≤ maxLen) :
    Calls Tryz.prog 20 #[.pointer (some ⟨g, 0, none⟩)] w fun e w' => ∃ z : Int, e = .returned (.int .i64 z) ∧ -9223372036854775808 ≤ z ∧ z ≤ 9223372036854775807 ∧ CSt w' g A n c ∧ w.grownBy w' (some g) := by
  have HC := hide hC
  have HN := Lib.hid hn
  clear hC hn
  go_enter Tryz.func20, Tryz.ntmps20
  go_wp2_with fail
  refine (next_st 9 9 rfl (by decide) (by decide) (unhide HC) HN.out).mono ?_
  rintro e w1 ⟨r1, hr1, rfl, hC1, hG1⟩
  have HC1 := hide hC1
  have HG1 := hide hG1
  clear hC1 hG1 HC
  by_cases h6 : r1 = 6
  · subst h6
    go_wp2_with fail
    go_ret
    exact ⟨-1, rfl, by omega, by omega, unhide HC1, unhide HG1⟩
  have g6 : ((r1 : Int) == 6) = false := beq_eq_false_iff_ne.2 (by omega)
  by_cases h7 : r1 = 7
  · subst h7
    go_wp2_with fail
    refine (next_st 2 2 rfl (by decide) (by decide) (unhide HC1) HN.out).mono ?_
    rintro e w2 ⟨r2, hr2, rfl, hC2, hG2⟩
    have HC2 := hide hC2
    have HG2 := hide (only_trans (unhide HG1) hG2)
    clear hC2 hG2
    go_wp2_with fail
    go_ret
    exact ⟨_, rfl, by omega, by omega, unhide HC2, unhide HG2⟩
  have g7 : ((r1 : Int) == 7) = false := beq_eq_false_iff_ne.2 (by omega)
  by_cases h8 : r1 = 8
  · subst h8
    go_wp2_with fail
    refine (next_st 2 2 rfl (by decide) (by decide) (unhide HC1) HN.out).mono ?_
    rintro e w2 ⟨r2, hr2, rfl, hC2, hG2⟩
    have HC2 := hide hC2
    have HG2 := hide (only_trans (unhide HG1) hG2)
    clear hC2 hG2
    go_wp2_with fail
    go_ret
    exact ⟨_, rfl, by omega, by omega, unhide HC2, unhide HG2⟩
  have g8 : ((r1 : Int) == 8) = false := beq_eq_false_iff_ne.2 (by omega)
  go_wp2_with fail
  refine (next_st 7 7 rfl (by decide) (by decide) (unhide HC1) HN.out).mono ?_
  rintro e w2 ⟨r2, hr2, rfl, hC2, hG2⟩
  have HC2 := hide hC2
  have HG2 := hide (only_trans (unhide HG1) hG2)
  clear hC2 hG2
  go_wp2_with fail
  go_ret
  exact ⟨_, rfl, by omega, by omega, unhide HC2, unhide HG2⟩

end Go.Proofs.YtaambeficfiacaaGreatDoor
