/- The choices of the statements: help.Mod, New and Next. No conditions but that a slice of numbers has a length. -/
import Derived.Test.YtdifpemohdnolaaGreatB0
import Derived.Deep.RegionHeld3
import Derived.Deep.DeepCutAuto
namespace Go.Proofs.YtdifpemohdnolaaGreat
open Go.RowKit

def modK (v : Int) (m : Nat) : Nat := (v % 18446744073709551616 % (m : Int)).toNat
theorem modK_lt (v : Int) (m : Nat) (hm : 0 < m) : modK v m < m := by
  unfold modK
  have h2 : 0 ≤ v % 18446744073709551616 % (m : Int) := Int.emod_nonneg _ (by omega)
  have h3 : v % 18446744073709551616 % (m : Int) < m := Int.emod_lt_of_pos _ (by omega)
  omega
theorem modK_eq (v : Int) (m : Nat) (hm : 0 < m) (hm2 : m ≤ 100000) : wrap64 ((IntKind.u64.wrap v).tmod (m : Int)) = (modK v m : Int) := by
  rw [IntKind.wrap_u64, Int.tmod_eq_emod_of_nonneg (by omega)]
  have h2 : 0 ≤ v % 18446744073709551616 % (m : Int) := Int.emod_nonneg _ (by omega)
  have h3 : v % 18446744073709551616 % (m : Int) < m := Int.emod_lt_of_pos _ (by omega)
  unfold modK wrap64
  omega
set_option maxHeartbeats 1000000 in
theorem mod_any (v : Int) (m : Nat) (hm : 0 < m) (hm2 : m ≤ 100000) (w : World) :
    Calls Tryz.prog 12 #[.int .i64 v, .int .i64 m] w fun e w' => e = .returned (.int .i64 (modK v m)) ∧ w' = w := by
  have H := Lib.hid (modK_eq v m hm hm2)
  have hmb : (0 : Int) < m := by omega
  have hmb2 : (m : Int) ≤ 100000 := by omega
  clear hm hm2
  go_enter Tryz.func12, Tryz.ntmps12
  go_wp2
  go_ret
  exact ⟨ret_int H.out, rfl⟩

/-- the numbers of a slice that came in -/
def InInts (w : World) (A : Option Addr) (n : Nat) : Prop := n = 0 ∨ ∃ (b off : Nat), A = some ⟨b, off, none⟩ ∧ b < w.heap.size ∧ ∀ k, k < n → ∃ z : Int, w.cell? ⟨b, off + k, none⟩ = some (.int .i64 z)
theorem InInts.keep {Pr : Nat → Prop} {w w' : World} {A : Option Addr} {n : Nat} (h : InInts w A n) (hk : Keep Pr w w') (hp : ∀ b, b < w.heap.size → Pr b) : InInts w' A n := by
  rcases h with h | ⟨b, off, rfl, hb, hc⟩
  · exact .inl h
  · refine .inr ⟨b, off, rfl, Nat.lt_of_lt_of_le hb hk.size, fun k hk2 => ?_⟩
    obtain ⟨z, hz⟩ := hc k hk2
    exact ⟨z, (hk.cell (hp b hb) _).trans hz⟩
theorem InInts.below {w w' : World} {A : Option Addr} {n : Nat} (h : InInts w A n) (hb : Below w.heap.size w w') : InInts w' A n :=
  h.keep (Pr := (· < w.heap.size)) ⟨hb.os, hb.tape, hb.output, hb.size, hb.block⟩ (fun _ q => q)
/-- the numbers lie below block B -/
def IntsAt (w : World) (B : Nat) (A : Option Addr) (n : Nat) : Prop := n = 0 ∨ ∃ (b off : Nat), A = some ⟨b, off, none⟩ ∧ b < B ∧ ∀ k, k < n → ∃ z : Int, w.cell? ⟨b, off + k, none⟩ = some (.int .i64 z)
theorem IntsAt.of {w : World} {A : Option Addr} {n : Nat} (h : InInts w A n) : IntsAt w w.heap.size A n := h
theorem IntsAt.keep {Pr : Nat → Prop} {w w' : World} {B : Nat} {A : Option Addr} {n : Nat} (h : IntsAt w B A n) (hk : Keep Pr w w') (hp : ∀ b, b < B → Pr b) : IntsAt w' B A n := by
  rcases h with h | ⟨b, off, rfl, hb, hc⟩
  · exact .inl h
  · refine .inr ⟨b, off, rfl, hb, fun k hk2 => ?_⟩
    obtain ⟨z, hz⟩ := hc k hk2
    exact ⟨z, (hk.cell (hp b hb) _).trans hz⟩
/-- block g holds the choices: the numbers A, n, c and how many have been taken -/
def Cho (w : World) (g : Nat) (A : Option Addr) (n c i : Nat) : Prop := Blk w g 56 #[.slice A n c, .int .i64 i]

theorem new_cho (w : World) (A : Option Addr) (n c : Nat) :
    Calls Tryz.prog 8 #[.slice A n c] w fun e w' => e = .returned (.pointer (some ⟨w.heap.size, 0, none⟩)) ∧ w' = w.alloc (.cells #[.slice A n c, .int .i64 0] 56) := by
  go_enter Tryz.func8, Tryz.ntmps8
  go_wp2
  go_ret
  exact ⟨rfl, rfl⟩

def NextPost (m : Nat) (w : World) (g : Nat) (A : Option Addr) (n c i : Nat) (e : Ending) (w' : World) : Prop :=
  ∃ r i' : Nat, r < m ∧ i ≤ i' ∧ i' ≤ i + 1 ∧ (i < n → i' = i + 1) ∧ i' ≤ max i n ∧ e = .returned (.int .i64 r) ∧ Cho w' g A n c i' ∧ w.grownBy w' (some g)
set_option maxRecDepth 100000 in
set_option maxHeartbeats 3200000 in
theorem next_cho (m : Nat) (hm : 0 < m) (hm2 : m ≤ 100000) (w : World) (B g : Nat) (A : Option Addr) (n c i : Nat) (h : Cho w g A n c i) (hn : n ≤ maxLen) (hi : i ≤ n) (hA : IntsAt w B A n) (hB : B ≤ g) :
    Calls Tryz.prog 21 #[.pointer (some ⟨g, 0, none⟩), .int .i64 m] w (NextPost m w g A n c i) := by
  unfold maxLen at hn
  have k0 : w.cell? ⟨g, 0, none⟩ = some (.slice A n c) := h.cell 0
  have k1 : w.cell? ⟨g, 1, none⟩ = some (.int .i64 i) := h.cell 1
  have f1 : w.frozen? ⟨g, 1, none⟩ = false := h.frozen 1
  have HC := Lib.hid h
  clear h
  have HM := Lib.hid (fun v W => mod_any v m hm hm2 W)
  have HML := Lib.hid (fun v => modK_lt v m hm)
  by_cases hlt : i < n
  · rcases hA with h0 | ⟨b, off, rfl, hb, hcs⟩
    · omega
    obtain ⟨z, hz⟩ := hcs i hlt
    have hne : ¬ b = g := by omega
    clear hcs hm hm2
    go_enter Tryz.func21, Tryz.ntmps21
    go_wp2_with fail
    go_quiet (fail)
    go_wp2_with fail
    have HC2 := Lib.hid (Blk.set_ (Blk.drewN HC.out nq) 1 (.int .i64 ((i : Int) + 1)))
    have HG2 : Hid (w.grownBy ((w.drewN nq).setCell ⟨g, 1, none⟩ (.int .i64 ((i : Int) + 1))) (some g)) := only_set (only_drewN (only_refl w (some g)) nq) 1 _
    have hz2 : ((w.drewN nq).setCell ⟨g, 1, none⟩ (.int .i64 ((i : Int) + 1))).cell? ⟨b, off + i, none⟩ = some (.int .i64 z) := (World.cell?_setCell_other (w.drewN nq) ⟨g, 1, none⟩ ⟨b, off + i, none⟩ _ (fun e => by injection e with e; omega)).trans hz
    generalize (w.drewN nq).setCell ⟨g, 1, none⟩ (.int .i64 ((i : Int) + 1)) = w1 at *
    have j0 : w1.cell? ⟨g, 0, none⟩ = some (.slice (some ⟨b, off, none⟩) n c) := HC2.out.cell 0
    have j1 : w1.cell? ⟨g, 1, none⟩ = some (.int .i64 ((i : Int) + 1)) := HC2.out.cell 1
    have hw1 : IntKind.i64.wrap ((i : Int) + 1 - 1) = (i : Int) := by rw [show ((i : Int) + 1 - 1) = i by omega]; exact IntWalk.i64_in _ (by omega)
    have hw2 : ((i : Int) + 1 - 1) = i := by omega
    have hw0 : IntKind.i64.wrap (i : Int) = (i : Int) := IntWalk.i64_in _ (by omega)
    have b0 : (0 : Int) ≤ (i : Int) := by omega
    have b1 : (i : Int) < (n : Int) := by omega
    clear k0 k1 f1 hz
    go_quiet ((go_at_call 12; exact Calls.quiet_of_same (HM.out _ _)))
    go_wp2
    go_ret
    exact ⟨modK z m, i + 1, HML.out z, by omega, by omega, fun _ => rfl, by omega, rfl, HC2.out, only_drewN HG2.out _⟩
  · have hg : ¬ (i < n) := hlt
    go_enter Tryz.func21, Tryz.ntmps21
    go_wp2_with fail
    go_quiet (fail)
    go_wp2
    go_ret
    exact ⟨0, i, hm, by omega, by omega, fun q => absurd q hg, by omega, rfl, HC.out, only_drewN (only_refl w (some g)) _⟩

theorem next_at (M : Int) (m : Nat) (hM : M = (m : Int)) (hm : 0 < m) (hm2 : m ≤ 100000) (w : World) (B g : Nat) (A : Option Addr) (n c i : Nat) (h : Cho w g A n c i) (hn : n ≤ maxLen) (hi : i ≤ n) (hA : IntsAt w B A n) (hB : B ≤ g) :
    Calls Tryz.prog 21 #[.pointer (some ⟨g, 0, none⟩), .int .i64 M] w (NextPost m w g A n c i) := by
  subst hM
  exact next_cho m hm hm2 w B g A n c i h hn hi hA hB


/-- the choices of a call that keeps what was there -/
structure CInv (w : World) (A : Option Addr) (n c : Nat) (wr : World) (ch : Nat) : Prop where
  cho : Cho wr w.heap.size A n c ch
  chn : ch ≤ n
  ints : IntsAt wr w.heap.size A n
  below : Below w.heap.size w wr
section
variable {w wr w' : World} {A : Option Addr} {n c ch : Nat}
theorem CInv.drewN (h : CInv w A n c wr ch) (m : Nat) : CInv w A n c (wr.drewN m) ch := ⟨Blk.drewN h.cho m, h.chn, h.ints, below_drewN h.below m⟩
theorem CInv.alloc (h : CInv w A n c wr ch) (o : Obj) : CInv w A n c (wr.alloc o) ch :=
  ⟨Blk.alloc h.cho o, h.chn, h.ints.keep (Pr := (· < wr.heap.size)) ((Keep.refl _ wr).alloc (fun _ q => q) o) (fun k hk => by have := h.below.size; omega), h.below.alloc h.below.size o⟩
theorem CInv.start (w : World) (A : Option Addr) (n c : Nat) (h : InInts w A n) : CInv w A n c (w.alloc (.cells #[.slice A n c, .int .i64 0] 56)) 0 :=
  ⟨Blk.new w _ _, Nat.zero_le _, (IntsAt.of h).keep (Pr := (· < w.heap.size)) ((Keep.refl _ w).alloc (fun _ q => q) _) (fun _ q => q), (Below.refl _ _).alloc (Nat.le_refl _) _⟩
theorem CInv.next (h : CInv w A n c wr ch) {ch' : Nat} (hc : Cho w' w.heap.size A n c ch') (hn : ch' ≤ n) (hg : wr.grownBy w' (some w.heap.size)) : CInv w A n c w' ch' :=
  ⟨hc, hn, h.ints.keep (Pr := (· < w.heap.size)) ⟨hg.os, hg.tape, hg.output, hg.size, fun k hk => hg.block k (by have := h.below.size; omega) (by intro e; injection e with e; omega)⟩ (fun _ q => q),
    below_grown h.below hg (Nat.le_refl _) (Nat.le_refl _)⟩
end
theorem next_c (M : Int) (m : Nat) (hM : M = (m : Int)) (hm : 0 < m) (hm2 : m ≤ 100000) {w wr : World} {A : Option Addr} {n c ch : Nat} (h : CInv w A n c wr ch) (hn : n ≤ maxLen) :
    Calls Tryz.prog 21 #[.pointer (some ⟨w.heap.size, 0, none⟩), .int .i64 M] wr fun e w' => ∃ r ch' : Nat, r < m ∧ e = .returned (.int .i64 r) ∧ CInv w A n c w' ch' ∧ wr.grownBy w' (some w.heap.size) := by
  refine (next_at M m hM hm hm2 wr w.heap.size w.heap.size A n c ch h.cho hn h.chn h.ints (Nat.le_refl _)).mono ?_
  rintro e w' ⟨r, ch', hr, _, _, _, hch, rfl, hC, hG⟩
  exact ⟨r, ch', hr, rfl, h.next hC (by have := h.chn; omega) hG, hG⟩

end Go.Proofs.YtdifpemohdnolaaGreat
