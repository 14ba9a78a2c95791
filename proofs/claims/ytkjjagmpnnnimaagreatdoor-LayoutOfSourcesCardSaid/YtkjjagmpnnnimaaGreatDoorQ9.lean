/- The choices of the statements, by Next; the statements' own source with blocks is a short string. No conditions but that a slice of numbers has a length. The statements' digit, and their source with blocks: a string of at most 2000 bytes. The program's builder of Insert: insert, openBlock, closeBlock and column move the state that the model says. Condition: fewer than a thousand million tokens. -/
import Derived.Test.YtkjjagmpnnnimaaGreatDoorQ6
import Derived.Test.YtkjjagmpnnnimaaGreatDoorQ8
import Derived.Deep.RegionHeld3
import Derived.Deep.DeepCutAuto
import Derived.Deep.RegionLaw
import Derived.Deep.AppendLies
namespace Go.Proofs.YtkjjagmpnnnimaaGreatDoor
open Go.RowKit M

/-- the numbers of a slice that came in -/
def InInts (w : World) (A : Option Addr) (n : Nat) : Prop := n = 0 ∨ ∃ (b off : Nat), A = some ⟨b, off, none⟩ ∧ b < w.heap.size ∧ ∀ k, k < n → ∃ z : Int, w.cell? ⟨b, off + k, none⟩ = some (.int .i64 z)
theorem InInts.keep {Pr : Nat → Prop} {w w' : World} {A : Option Addr} {n : Nat} (h : InInts w A n) (hk : Keep Pr w w') (hp : ∀ b, b < w.heap.size → Pr b) : InInts w' A n := by
  rcases h with h | ⟨b, off, rfl, hb, hc⟩
  · exact .inl h
  · refine .inr ⟨b, off, rfl, Nat.lt_of_lt_of_le hb hk.size, fun k hk2 => ?_⟩
    obtain ⟨z, hz⟩ := hc k hk2
    exact ⟨z, (hk.cell (hp b hb) _).trans hz⟩
theorem InInts.below {w w' : World} {A : Option Addr} {n : Nat} (h : InInts w A n) (hb : Below w.heap.size w w') : InInts w' A n :=
  h.keep (Pr := (· < w.heap.size)) ⟨hb.os, hb.tape, hb.output, hb.size, hb.block⟩ (fun _ q => q)
/-- the numbers lie below block B -/
def IntsAt (w : World) (B : Nat) (A : Option Addr) (n : Nat) : Prop := n = 0 ∨ ∃ (b off : Nat), A = some ⟨b, off, none⟩ ∧ b < B ∧ ∀ k, k < n → ∃ z : Int, w.cell? ⟨b, off + k, none⟩ = some (.int .i64 z)
theorem IntsAt.of {w : World} {A : Option Addr} {n : Nat} (h : InInts w A n) : IntsAt w w.heap.size A n := h
theorem IntsAt.keep {Pr : Nat → Prop} {w w' : World} {B : Nat} {A : Option Addr} {n : Nat} (h : IntsAt w B A n) (hk : Keep Pr w w') (hp : ∀ b, b < B → Pr b) : IntsAt w' B A n := by
  rcases h with h | ⟨b, off, rfl, hb, hc⟩
  · exact .inl h
  · refine .inr ⟨b, off, rfl, hb, fun k hk2 => ?_⟩
    obtain ⟨z, hz⟩ := hc k hk2
    exact ⟨z, (hk.cell (hp b hb) _).trans hz⟩
/-- block g holds the choices: the numbers A, n, c and how many have been taken -/
def Cho (w : World) (g : Nat) (A : Option Addr) (n c i : Nat) : Prop := Blk w g 64 #[.slice A n c, .int .i64 i]

theorem new_cho (w : World) (A : Option Addr) (n c : Nat) :
    Calls Tryz.prog 12 #[.slice A n c] w fun e w' => e = .returned (.pointer (some ⟨w.heap.size, 0, none⟩)) ∧ w' = w.alloc (.cells #[.slice A n c, .int .i64 0] 64) := by
  go_enter Tryz.func12, Tryz.ntmps12
  go_wp2
  go_ret
  exact ⟨rfl, rfl⟩


def NextPost (m : Nat) (w : World) (g : Nat) (A : Option Addr) (n c i : Nat) (e : Ending) (w' : World) : Prop :=
  ∃ r i' : Nat, r < m ∧ i ≤ i' ∧ i' ≤ i + 1 ∧ (i < n → i' = i + 1) ∧ i' ≤ max i n ∧ e = .returned (.int .i64 r) ∧ Cho w' g A n c i' ∧ w.grownBy w' (some g)
set_option maxRecDepth 100000 in
set_option maxHeartbeats 3200000 in
theorem next_cho (m : Nat) (hm : 0 < m) (hm2 : m ≤ 100000) (w : World) (B g : Nat) (A : Option Addr) (n c i : Nat) (h : Cho w g A n c i) (hn : n ≤ maxLen) (hi : i ≤ n) (hA : IntsAt w B A n) (hB : B ≤ g) :
    Calls Tryz.prog 14 #[.pointer (some ⟨g, 0, none⟩), .int .i64 m] w (NextPost m w g A n c i) := by
  unfold maxLen at hn
  have k0 : w.cell? ⟨g, 0, none⟩ = some (.slice A n c) := h.cell 0
  have k1 : w.cell? ⟨g, 1, none⟩ = some (.int .i64 i) := h.cell 1
  have f1 : w.frozen? ⟨g, 1, none⟩ = false := h.frozen 1
  have HC := Lib.hid h
  clear h
  have HM := Lib.hid (fun v W => mod_any v m hm hm2 W)
  have HML := Lib.hid (fun v => modK_lt v m hm)
  by_cases hlt : i < n
  · rcases hA with h0 | ⟨b, off, rfl, hb, hcs⟩
    · omega
    obtain ⟨z, hz⟩ := hcs i hlt
    have hne : ¬ b = g := by omega
    clear hcs hm hm2
    go_enter Tryz.func14, Tryz.ntmps14
    go_wp2_with fail
    go_quiet (fail)
    go_wp2_with fail
    have HC2 := Lib.hid (Blk.set_ (Blk.drewN HC.out nq) 1 (.int .i64 ((i : Int) + 1)))
    have HG2 : Hid (w.grownBy ((w.drewN nq).setCell ⟨g, 1, none⟩ (.int .i64 ((i : Int) + 1))) (some g)) := only_set (only_drewN (only_refl w (some g)) nq) 1 _
    have hz2 : ((w.drewN nq).setCell ⟨g, 1, none⟩ (.int .i64 ((i : Int) + 1))).cell? ⟨b, off + i, none⟩ = some (.int .i64 z) := (World.cell?_setCell_other (w.drewN nq) ⟨g, 1, none⟩ ⟨b, off + i, none⟩ _ (fun e => by injection e with e; omega)).trans hz
    generalize (w.drewN nq).setCell ⟨g, 1, none⟩ (.int .i64 ((i : Int) + 1)) = w1 at *
    have j0 : w1.cell? ⟨g, 0, none⟩ = some (.slice (some ⟨b, off, none⟩) n c) := HC2.out.cell 0
    have j1 : w1.cell? ⟨g, 1, none⟩ = some (.int .i64 ((i : Int) + 1)) := HC2.out.cell 1
    have hw1 : IntKind.i64.wrap ((i : Int) + 1 - 1) = (i : Int) := by rw [show ((i : Int) + 1 - 1) = i by omega]; exact IntWalk.i64_in _ (by omega)
    have hw2 : ((i : Int) + 1 - 1) = i := by omega
    have b0 : (0 : Int) ≤ (i : Int) := by omega
    have b1 : (i : Int) < (n : Int) := by omega
    clear k0 k1 f1 hz
    go_quiet ((go_at_call 36; exact Calls.quiet_of_same (HM.out _ _)))
    go_wp2
    go_ret
    exact ⟨modK z m, i + 1, HML.out z, by omega, by omega, fun _ => rfl, by omega, rfl, HC2.out, only_drewN HG2.out _⟩
  · have hg : ¬ (i < n) := hlt
    go_enter Tryz.func14, Tryz.ntmps14
    go_wp2_with fail
    go_quiet (fail)
    go_wp2
    go_ret
    exact ⟨0, i, hm, by omega, by omega, fun q => absurd q hg, by omega, rfl, HC.out, only_drewN (only_refl w (some g)) _⟩

theorem next_at (M : Int) (m : Nat) (hM : M = (m : Int)) (hm : 0 < m) (hm2 : m ≤ 100000) (w : World) (B g : Nat) (A : Option Addr) (n c i : Nat) (h : Cho w g A n c i) (hn : n ≤ maxLen) (hi : i ≤ n) (hA : IntsAt w B A n) (hB : B ≤ g) :
    Calls Tryz.prog 14 #[.pointer (some ⟨g, 0, none⟩), .int .i64 M] w (NextPost m w g A n c i) := by
  subst hM
  exact next_cho m hm hm2 w B g A n c i h hn hi hA hB


/-- the choices of a call that keeps what was there -/
structure CInv (w : World) (A : Option Addr) (n c : Nat) (wr : World) (ch : Nat) : Prop where
  cho : Cho wr w.heap.size A n c ch
  chn : ch ≤ n
  ints : IntsAt wr w.heap.size A n
  below : Below w.heap.size w wr
section
variable {w wr w' : World} {A : Option Addr} {n c ch : Nat}
theorem CInv.drewN (h : CInv w A n c wr ch) (m : Nat) : CInv w A n c (wr.drewN m) ch := ⟨Blk.drewN h.cho m, h.chn, h.ints, below_drewN' h.below m⟩
theorem CInv.alloc (h : CInv w A n c wr ch) (o : Obj) : CInv w A n c (wr.alloc o) ch :=
  ⟨Blk.alloc h.cho o, h.chn, h.ints.keep (Pr := (· < wr.heap.size)) ((Keep.refl _ wr).alloc (fun _ q => q) o) (fun k hk => by have := h.below.size; omega), h.below.alloc h.below.size o⟩
theorem CInv.start (w : World) (A : Option Addr) (n c : Nat) (h : InInts w A n) : CInv w A n c (w.alloc (.cells #[.slice A n c, .int .i64 0] 64)) 0 :=
  ⟨Blk.new w _ _, Nat.zero_le _, (IntsAt.of h).keep (Pr := (· < w.heap.size)) ((Keep.refl _ w).alloc (fun _ q => q) _) (fun _ q => q), (Below.refl _ _).alloc (Nat.le_refl _) _⟩
theorem CInv.next (h : CInv w A n c wr ch) {ch' : Nat} (hc : Cho w' w.heap.size A n c ch') (hn : ch' ≤ n) (hg : wr.grownBy w' (some w.heap.size)) : CInv w A n c w' ch' :=
  ⟨hc, hn, h.ints.keep (Pr := (· < w.heap.size)) ⟨hg.os, hg.tape, hg.output, hg.size, fun k hk => hg.block k (by have := h.below.size; omega) (by intro e; injection e with e; omega)⟩ (fun _ q => q),
    below_grown h.below hg (Nat.le_refl _) (Nat.le_refl _)⟩
end
theorem next_c (M : Int) (m : Nat) (hM : M = (m : Int)) (hm : 0 < m) (hm2 : m ≤ 100000) {w wr : World} {A : Option Addr} {n c ch : Nat} (h : CInv w A n c wr ch) (hn : n ≤ maxLen) :
    Calls Tryz.prog 14 #[.pointer (some ⟨w.heap.size, 0, none⟩), .int .i64 M] wr fun e w' => ∃ r ch' : Nat, r < m ∧ e = .returned (.int .i64 r) ∧ CInv w A n c w' ch' ∧ wr.grownBy w' (some w.heap.size) := by
  refine (next_at M m hM hm hm2 wr w.heap.size w.heap.size A n c ch h.cho hn h.chn h.ints (Nat.le_refl _)).mono ?_
  rintro e w' ⟨r, ch', hr, _, _, _, hch, rfl, hC, hG⟩
  exact ⟨r, ch', hr, rfl, h.next hC (by have := h.chn; omega) hG, hG⟩

end Go.Proofs.YtkjjagmpnnnimaaGreatDoor

namespace Go.Proofs.YtkjjagmpnnnimaaGreatDoor
open Go.RowKit M

set_option maxRecDepth 100000 in
set_option maxHeartbeats 3200000 in
theorem digit_any (k : Nat) (hk : k ≤ 9) (w : World) :
    Calls Tryz.prog 13 #[.int .i64 k] w fun e w' => ∃ s : ByteArray, e = .returned (.string s) ∧ s.size ≤ 1 ∧ w' = w := by
  go_enter Tryz.func13, Tryz.ntmps13
  go_wp2
  go_ret
  exact ⟨_, rfl, by simp; omega, rfl⟩

theorem size_lit (a : Array UInt8) : (⟨a⟩ : ByteArray).size = a.size := rfl
def LRel (w : World) (A : Option Addr) (n c B : Nat) (t4 : Value) (wx : World) : Prop := ∃ (s : ByteArray) (ch : Nat), t4 = .string s ∧ s.size ≤ B ∧ Hid (CInv w A n c wx ch)
def tl4 : List Bs := [[83, 75, 73, 80], [80], [40, 98, 32, 45, 62, 32, 83, 84, 79, 80, 32, 91, 93, 32, 80, 41], [40, 80, 32, 124, 124, 124, 32, 83, 75, 73, 80, 41, 32, 92, 32, 123, 97, 125]]
def tl3 : List Bs := [[122], [121, 32, 43, 32, 122], [120]]
theorem tl4_le (k : Nat) (h : k < 4) : (tl4.getD k []).length ≤ 20 := by
  have : ∀ k : Fin 4, (tl4.getD k.val []).length ≤ 20 := by decide
  exact this ⟨k, h⟩
theorem tl3_le (k : Nat) (h : k < 3) : (tl3.getD k []).length ≤ 20 := by
  have : ∀ k : Fin 3, (tl3.getD k.val []).length ≤ 20 := by decide
  exact this ⟨k, h⟩

set_option maxRecDepth 100000 in
set_option maxHeartbeats 6400000 in
theorem layouted_any (w : World) (A : Option Addr) (n c : Nat) (hA : InInts w A n) (hn : n ≤ maxLen) :
    Calls Tryz.prog 5 #[.slice A n c] w fun e w' => ∃ s : ByteArray, e = .returned (.string s) ∧ s.size ≤ 2000 ∧ Below w.heap.size w w' := by
  have HC := Lib.hid (CInv.start w A n c hA)
  have HN := Lib.hid hn
  clear hA hn
  go_enter Tryz.func5, Tryz.ntmps5
  go_wp2_with fail
  refine (new_cho w A n c).mono ?_
  rintro e w0 ⟨rfl, rfl⟩
  go_wp2_with fail
  refine (next_c 3 3 rfl (by decide) (by decide) HC.out HN.out).mono ?_
  rintro e w1 ⟨r, ch1, hr, rfl, hC1, -⟩
  replace HC := Lib.hid hC1
  clear hC1
  go_wp2_with fail
  refine (digit_any r (by omega) _).mono ?_
  rintro e w2 ⟨d, rfl, hd, rfl⟩
  go_wp2_with fail
  refine (next_c 2 2 rfl (by decide) (by decide) HC.out HN.out).mono ?_
  rintro e w3 ⟨r2, ch2, hr2, rfl, hC2, -⟩
  replace HC := Lib.hid hC2
  clear hC2
  go_upto_if 14 with (fail)
  go_cut [4] (fun t4 wx => LRel w A n c 300 t4 wx)
  case first =>
    by_cases h1 : r2 = 1
    · have g1 : ((r2 : Int) == 1) = true := beq_iff_eq.2 (by omega)
      clear h1
      go_wp2_with fail
      refine (next_c 9 9 rfl (by decide) (by decide) HC.out HN.out).mono ?_
      rintro e w4 ⟨r3, ch_r3, h_r3, rfl, hC, -⟩
      replace HC := Lib.hid hC
      clear hC
      go_wp2_with fail
      refine (digit_any r3 (by omega) _).mono ?_
      rintro e w5 ⟨d3, rfl, h_d3, rfl⟩
      go_wp2_with fail
      go_meet
      exact ⟨_, _, rfl, by first | omega | (simp [ByteArray.size_append, size_lit]; omega), HC⟩
    · have g1 : ((r2 : Int) == 1) = false := beq_eq_false_iff_ne.2 (by omega)
      clear h1
      go_wp2_with fail
      go_meet
      exact ⟨_, _, rfl, by first | omega | (simp [ByteArray.size_append, size_lit]; omega), HC⟩
  case rest =>
    obtain ⟨s4, ch4, rfl, hs4, HC4⟩ := hcut
    clear HC
    have HC := HC4
    clear HC4
    go_wp2_with fail
    refine (next_c 2 2 rfl (by decide) (by decide) HC.out HN.out).mono ?_
    rintro e w6 ⟨r5, ch_r5, h_r5, rfl, hC, -⟩
    replace HC := Lib.hid hC
    clear hC
    go_upto_if 26 with (fail)
    go_cut [4] (fun t4 wx => LRel w A n c 500 t4 wx)
    case first =>
      by_cases h1 : r5 = 1
      · have g1 : ((r5 : Int) == 1) = true := beq_iff_eq.2 (by omega)
        clear h1
        go_wp2_with fail
        refine (next_c 9 9 rfl (by decide) (by decide) HC.out HN.out).mono ?_
        rintro e w7 ⟨r6, ch_r6, h_r6, rfl, hC, -⟩
        replace HC := Lib.hid hC
        clear hC
        go_wp2_with fail
        refine (digit_any r6 (by omega) _).mono ?_
        rintro e w8 ⟨d6, rfl, h_d6, rfl⟩
        go_wp2_with fail
        go_meet
        exact ⟨_, _, rfl, by first | omega | (simp [ByteArray.size_append, size_lit]; omega), HC⟩
      · have g1 : ((r5 : Int) == 1) = false := beq_eq_false_iff_ne.2 (by omega)
        clear h1
        go_wp2_with fail
        go_meet
        exact ⟨_, _, rfl, by first | omega | (simp [ByteArray.size_append, size_lit]; omega), HC⟩
    case rest =>
      obtain ⟨s5, ch5, rfl, hs5, HC5⟩ := hcut
      clear HC
      have HC := HC5
      clear HC5
      go_wp2_with fail
      refine (next_c 2 2 rfl (by decide) (by decide) HC.out HN.out).mono ?_
      rintro e w9 ⟨r7, ch_r7, h_r7, rfl, hC, -⟩
      replace HC := Lib.hid hC
      clear hC
      go_upto_if 36 with (fail)
      go_cut [4] (fun t4 wx => LRel w A n c 800 t4 wx)
      case first =>
        by_cases h1 : r7 = 1
        · have g1 : ((r7 : Int) == 1) = true := beq_iff_eq.2 (by omega)
          clear h1
          go_wp2_with fail
          have hzx := HC.out.below.size
          have HSB : Hid ((w9.alloc (strBlock tl4)).heap[w9.heap.size]? = some (strBlock tl4)) := heap_alloc_new w9 _
          refine (next_c 4 4 rfl (by decide) (by decide) (HC.out.alloc _) HN.out).mono ?_
          rintro e w10 ⟨r8, ch_r8, h_r8, rfl, hC, hG⟩
          have hst : w10.cell? ⟨w9.heap.size, r8, none⟩ = some (.string (S (tl4.getD r8 []))) := str_cell ((hG.block _ (by simp) (by intro e; injection e with e; have := HC.out.cho.lt; omega)).trans HSB.out) r8 (show r8 < tl4.length from h_r8)
          have hle := tl4_le r8 h_r8
          generalize tl4.getD r8 [] = st at *
          replace HC := Lib.hid hC
          clear hC hG HSB
          have b0 : (0 : Int) ≤ (r8 : Int) := by omega
          have b4 : (r8 : Int) < 4 := by omega
          go_wp2_with fail
          go_meet
          exact ⟨_, _, rfl, by first | omega | (simp [ByteArray.size_append, size_lit]; omega), HC⟩
        · have g1 : ((r7 : Int) == 1) = false := beq_eq_false_iff_ne.2 (by omega)
          clear h1
          go_wp2_with fail
          go_meet
          exact ⟨_, _, rfl, by first | omega | (simp [ByteArray.size_append, size_lit]; omega), HC⟩
      case rest =>
        obtain ⟨s6, ch6, rfl, hs6, HC6⟩ := hcut
        clear HC
        have HC := HC6
        clear HC6
        go_wp2_with fail
        have hzx := HC.out.below.size
        have HSB : Hid ((wc.alloc (strBlock tl3)).heap[wc.heap.size]? = some (strBlock tl3)) := heap_alloc_new wc _
        refine (next_c 3 3 rfl (by decide) (by decide) (HC.out.alloc _) HN.out).mono ?_
        rintro e w11 ⟨r9, ch_r9, h_r9, rfl, hC, hG⟩
        have hst : w11.cell? ⟨wc.heap.size, r9, none⟩ = some (.string (S (tl3.getD r9 []))) := str_cell ((hG.block _ (by simp) (by intro e; injection e with e; have := HC.out.cho.lt; omega)).trans HSB.out) r9 (show r9 < tl3.length from h_r9)
        have hle := tl3_le r9 h_r9
        generalize tl3.getD r9 [] = st at *
        replace HC := Lib.hid hC
        clear hC hG HSB
        have b0 : (0 : Int) ≤ (r9 : Int) := by omega
        have b3 : (r9 : Int) < 3 := by omega
        go_wp2_with fail
        refine (next_c 2 2 rfl (by decide) (by decide) HC.out HN.out).mono ?_
        rintro e w12 ⟨r10, ch_r10, h_r10, rfl, hC, -⟩
        replace HC := Lib.hid hC
        clear hC
        go_upto_if 57 with (fail)
        go_cut [4] (fun t4 wx => LRel w A n c 1500 t4 wx)
        case first =>
          by_cases h1 : r10 = 1
          · have g1 : ((r10 : Int) == 1) = true := beq_iff_eq.2 (by omega)
            clear h1
            go_wp2_with fail
            go_wp2_with fail
            go_meet
            exact ⟨_, _, rfl, by first | omega | (simp [ByteArray.size_append, size_lit]; omega), HC⟩
          · have g1 : ((r10 : Int) == 1) = false := beq_eq_false_iff_ne.2 (by omega)
            clear h1
            go_wp2_with fail
            go_meet
            exact ⟨_, _, rfl, by first | omega | (simp [ByteArray.size_append, size_lit]; omega), HC⟩
        case rest =>
          obtain ⟨s7, ch7, rfl, hs7, HC7⟩ := hcut
          clear HC
          go_wp2_with fail
          go_ret
          exact ⟨_, rfl, by omega, HC7.out.below⟩

end Go.Proofs.YtkjjagmpnnnimaaGreatDoor

namespace Go.Proofs.YtkjjagmpnnnimaaGreatDoor
open Go.RowKit M

/-- a position's value -/
abbrev posV (a b : Int) : Value := .agg #[.int .i64 a, .int .i64 b]
abbrev bCells (vt vc : Value) (la it li : Int × Int) : Array Value :=
  #[vt, vc, .int .i64 la.1, .int .i64 la.2, .int .i64 it.1, .int .i64 it.2, .int .i64 li.1, .int .i64 li.2]
def colCells (cols : List Int) : List Value := cols.reverse.map (Value.int .i64)
/-- block g is the builder of state s: its tokens vt, its columns vc; no block of Pr is the state's own -/
structure BAt (w : World) (Pr : Nat → Prop) (g : Nat) (s : LSt) (vt vc : Value) : Prop where
  blk : Blk w g 71 (bCells vt vc s.last s.item s.line)
  rt : w.ownsRow 0 37 5 vt s.out.length (toksCells s.out)
  rc : w.ownsRow 0 3 1 vc s.cols.length (colCells s.cols)
  ng : ¬ Pr g
  nt : ∀ k, vt.ownBlock = some k → ¬ Pr k
  nc : ∀ k, vc.ownBlock = some k → ¬ Pr k
  lt : ∀ k, Pr k → k < w.heap.size
def BSt (w : World) (Pr : Nat → Prop) (g : Nat) (s : LSt) : Prop := ∃ vt vc, BAt w Pr g s vt vc
/-- a method without results: the state s' behind it, the blocks of Pr as they were -/
def BPost (w : World) (Pr : Nat → Prop) (g : Nat) (s' : LSt) (e : Ending) (w' : World) : Prop := e = .returned (.tuple #[]) ∧ BSt w' Pr g s' ∧ Keep Pr w w'

section
variable {w w' : World} {Pr Pr' : Nat → Prop} {g : Nat} {s : LSt} {vt vc : Value}
theorem BAt.gt (h : BAt w Pr g s vt vc) : vt.ownBlock ≠ some g := own_blk_ne h.rt h.blk (by decide)
theorem BAt.gc (h : BAt w Pr g s vt vc) : vc.ownBlock ≠ some g := own_blk_ne h.rc h.blk (by decide)
theorem BAt.tc (h : BAt w Pr g s vt vc) : ∀ k, vt.ownBlock = some k → vc.ownBlock ≠ some k := own_own_ne h.rt h.rc (by decide)
theorem BAt.alloc (h : BAt w Pr g s vt vc) (o : Obj) : BAt (w.alloc o) Pr g s vt vc :=
  ⟨h.blk.alloc o, h.rt.alloc o, h.rc.alloc o, h.ng, h.nt, h.nc, fun k hk => Nat.lt_of_lt_of_le (h.lt k hk) (by simp)⟩
theorem BAt.drew (h : BAt w Pr g s vt vc) : BAt w.drew Pr g s vt vc := ⟨h.blk, h.rt, h.rc, h.ng, h.nt, h.nc, h.lt⟩
theorem BAt.drewN (h : BAt w Pr g s vt vc) (n : Nat) : BAt (w.drewN n) Pr g s vt vc := ⟨h.blk, h.rt, h.rc, h.ng, h.nt, h.nc, h.lt⟩
theorem BAt.mono (h : BAt w Pr g s vt vc) (hp : ∀ k, Pr' k → Pr k) : BAt w Pr' g s vt vc :=
  ⟨h.blk, h.rt, h.rc, fun k => h.ng (hp _ k), fun k hk q => h.nt k hk (hp _ q), fun k hk q => h.nc k hk (hp _ q), fun k hk => h.lt k (hp k hk)⟩
/-- one more block is protected: the one that is made now -/
theorem BAt.more (h : BAt w Pr g s vt vc) (o : Obj) : BAt (w.alloc o) (fun k => Pr k ∨ k = w.heap.size) g s vt vc := by
  have h' := h.alloc o
  refine ⟨h'.blk, h'.rt, h'.rc, ?_, ?_, ?_, ?_⟩
  · rintro (q | q)
    · exact h.ng q
    · have := h.blk.lt; omega
  · rintro k hk (q | q)
    · exact h.nt k hk q
    · have := (h.rt.lt k hk).2; omega
  · rintro k hk (q | q)
    · exact h.nc k hk q
    · have := (h.rc.lt k hk).2; omega
  · rintro k (q | q)
    · exact h'.lt k q
    · simp; omega
end
theorem owns_set {w : World} {b g o : Nat} {e : TypeId} {z : Nat} {v : Value} {n : Nat} {xs : List Value} (h : w.ownsRow b e z v n xs) (hg : v.ownBlock ≠ some g) (u : Value) : (w.setCell ⟨g, o, none⟩ u).ownsRow b e z v n xs := by
  refine h.kept (only_set (only_refl w (some g)) o u) ?_
  cases ho : v.ownBlock with
  | none => exact .inl rfl
  | some k => exact .inr (fun q => hg (by rw [ho, q]))
theorem owns_other {w w' : World} {row : Option Nat} {b : Nat} {e : TypeId} {z : Nat} {v : Value} {n : Nat} {xs : List Value} (h : w.ownsRow b e z v n xs) (hg : w.grownBy w' row) (hr : ∀ k, v.ownBlock = some k → row ≠ some k) : w'.ownsRow b e z v n xs := by
  refine h.kept hg ?_
  cases ho : v.ownBlock with
  | none => exact .inl rfl
  | some k => exact .inr (fun q => hr k ho q.symm)

theorem heap_new2 (w : World) (o o2 : Obj) : ((w.alloc o).alloc o2).heap[w.heap.size + 1]? = some o2 := by
  have := heap_alloc_new (w.alloc o) o2
  rwa [show (w.alloc o).heap.size = w.heap.size + 1 by simp] at this
theorem own_fresh {w : World} {b : Nat} {e : TypeId} {z : Nat} {v : Value} {n : Nat} {xs : List Value} (h : w.ownsRow b e z v n xs) {k : Nat} (hk : w.heap.size ≤ k) : v.ownBlock ≠ some k :=
  fun q => by have := (h.lt k q).2; omega
theorem tok_one (t : Tok) : ∀ u ∈ tokCells t, u.oneCell' = true := by
  intro u hu; simp [tokCells] at hu; rcases hu with rfl | rfl | rfl | rfl | rfl <;> rfl

theorem int_info : (Tryz.prog.info? 3).map (fun i => (i.zero, i.size, i.bytes)) = some (some (.int .i64 0), 1, 8) := by kernel_rfl

/-- what is left behind b.tokens = append(b.tokens, t) -/
theorem push_end {w w1 : World} {Pr : Nat → Prop} {g : Nat} {s : LSt} {vt vc : Value} (hD : BAt w Pr g s vt vc) (t : Tok) {gg cap : Nat}
    (hown1 : w1.ownsRow 0 37 5 (.slice (some ⟨gg, 0, none⟩) (s.out.length + 1) cap) (s.out.length + 1) (toksCells s.out ++ tokCells t))
    (hgrow : w.grownBy w1 vt.ownBlock) (hat : vt.ownBlock = some gg ∨ w.heap.size ≤ gg) :
    BSt (w1.setCell ⟨g, 0, none⟩ (.slice (some ⟨gg, 0, none⟩) (s.out.length + 1) cap)) Pr g { s with out := s.out ++ [t] } ∧
      Keep Pr w (w1.setCell ⟨g, 0, none⟩ (.slice (some ⟨gg, 0, none⟩) (s.out.length + 1) cap)) := by
  refine ⟨⟨.slice (some ⟨gg, 0, none⟩) (s.out.length + 1) cap, vc, ?_⟩, ?_⟩
  · have hb1 := hD.blk.grown hgrow (Ne.symm hD.gt)
    have hc1 := owns_other hD.rc hgrow (fun k hk q => hD.tc k q hk)
    have hne : (Value.slice (some ⟨gg, 0, none⟩) (s.out.length + 1) cap).ownBlock ≠ some g := own_blk_ne hown1 hb1 (by decide)
    have hcg : vc.ownBlock ≠ some g := own_blk_ne hc1 hb1 (by decide)
    refine ⟨hb1.set_ 0 _, ?_, owns_set hc1 hcg _, hD.ng, ?_, hD.nc, ?_⟩
    · show World.ownsRow _ _ _ _ _ (s.out ++ [t]).length (toksCells (s.out ++ [t]))
      rw [List.length_append, ← toks_snoc]
      exact owns_set hown1 hne _
    · intro k hk hp
      have hkg : gg = k := by simpa [Value.ownBlock] using hk
      subst hkg
      rcases hat with q | q
      · exact hD.nt _ q hp
      · have := hD.lt _ hp; omega
    · intro k hk
      have := hD.lt k hk
      have h1 := hgrow.size
      simp [World.setCell] at h1 ⊢
      omega
  · exact ((Keep.refl Pr w).grown hgrow hD.lt hD.nt).setCell (p := ⟨g, 0, none⟩) hD.ng _

set_option maxRecDepth 100000 in
set_option maxHeartbeats 3200000 in
theorem insert_any (w : World) (Pr : Nat → Prop) (g : Nat) (s : LSt) (kd a b : Int) (h : BSt w Pr g s) (hn : s.out.length ≤ 1000000000) :
    Calls Tryz.prog 63 #[.pointer (some ⟨g, 0, none⟩), .int .i64 kd, posV a b] w (BPost w Pr g { s with out := s.out ++ [mkT kd (a, b)] }) := by
  obtain ⟨vt, vc, hB⟩ := h
  obtain ⟨A1, c1, rfl⟩ := owns_form hB.rt
  obtain ⟨i0, hi0, hz0, hz1, hz2⟩ := info_parts token_info
  have k0 : w.cell? ⟨g, 0, none⟩ = some (.slice A1 s.out.length c1) := hB.blk.cell 0
  have kf : w.frozen? ⟨g, 0, none⟩ = false := hB.blk.frozen 0
  have hg : g < w.heap.size := hB.blk.lt
  have ag := hB.gt
  have ap : (Value.slice A1 s.out.length c1).ownBlock ≠ some w.heap.size := own_fresh hB.rt (Nat.le_refl _)
  have HB := Lib.hid hB
  clear hB
  go_enter Tryz.func63, Tryz.ntmps63
  go_wp2_with fail
  go_region_law
    ((refine step_append_lies _ (by rfl) _ _ _ (by rfl) 0 37 i0 _ 5 48 Tryz.underlying23 hi0 hz0 hz1 hz2 rfl (by omega) (.slice A1 s.out.length c1) s.out.length (toksCells s.out) (by rfl) (((HB.out.rt.alloc _).alloc _).drew)
        ⟨w.heap.size + 1, 0, none⟩ 1 1 (tokCells (mkT kd (a, b))) (by rfl) (by rfl) (World.news_of_block (cs := #[.int .i64 kd, .int .i64 0, .string ⟨#[]⟩, .int .i64 a, .int .i64 b]) (t := 37) (fr := (0, 0)) (heap_new2 _ _ _)) (tok_one _)
        (by omega) (by unfold maxLen; omega) (by omega) (by simp) (w.heap.size + 2) (by simp) ?_; intro gg cap w1 hown1 hgrow hat hlt; have hfz : w1.frozen? ⟨g, 0, none⟩ = false := (hgrow.frozen_far ⟨g, 0, none⟩ (by simp; omega) (Ne.symm ag)).trans ((((HB.out.alloc _).alloc _).drew).blk.frozen 0); have hcz : w1.cell? ⟨g, 0, none⟩ = some (.slice A1 s.out.length c1) := (hgrow.cell_far ⟨g, 0, none⟩ (by simp; omega) (Ne.symm ag)).trans ((((HB.out.alloc _).alloc _).drew).blk.cell 0)))
  all_goals
    go_wp2
    go_end0
    have hE := push_end ((HB.out.alloc (.cells #[.int .i64 a, .int .i64 b] 25)).alloc (.cells #[.int .i64 kd, .int .i64 0, .string ⟨#[]⟩, .int .i64 a, .int .i64 b] 37)).drew (mkT kd (a, b)) hown1 hgrow (hat.imp id (fun q => by simp; omega))
    exact ⟨rfl, hE.1, ((((Keep.refl Pr w).alloc HB.out.lt _).alloc HB.out.lt _).drew).trans hE.2⟩

end Go.Proofs.YtkjjagmpnnnimaaGreatDoor
