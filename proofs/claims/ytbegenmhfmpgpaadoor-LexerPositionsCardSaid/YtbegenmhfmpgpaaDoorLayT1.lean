/- The choices of the statements, by Next; the statements' own source with blocks is a short string. No conditions but that a slice of numbers has a length. -/
import Derived.Test.YtbegenmhfmpgpaaDoorTokA
import Derived.Test.YtbegenmhfmpgpaaDoorLexR4
import Derived.Test.YtbegenmhfmpgpaaDoorTokB
import Derived.Deep.RegionHeld3
import Derived.Deep.DeepCutAuto
namespace Go.Proofs.YtbegenmhfmpgpaaDoor
open Go.RowKit M

/-- the numbers of a slice that came in -/
def InInts (w : World) (A : Option Addr) (n : Nat) : Prop := n = 0 ∨ ∃ (b off : Nat), A = some ⟨b, off, none⟩ ∧ b < w.heap.size ∧ ∀ k, k < n → ∃ z : Int, w.cell? ⟨b, off + k, none⟩ = some (.int .i64 z)
theorem InInts.keep {Pr : Nat → Prop} {w w' : World} {A : Option Addr} {n : Nat} (h : InInts w A n) (hk : Keep Pr w w') (hp : ∀ b, b < w.heap.size → Pr b) : InInts w' A n := by
  rcases h with h | ⟨b, off, rfl, hb, hc⟩
  · exact .inl h
  · refine .inr ⟨b, off, rfl, Nat.lt_of_lt_of_le hb hk.size, fun k hk2 => ?_⟩
    obtain ⟨z, hz⟩ := hc k hk2
    exact ⟨z, (hk.cell (hp b hb) _).trans hz⟩
theorem InInts.below {w w' : World} {A : Option Addr} {n : Nat} (h : InInts w A n) (hb : Below w.heap.size w w') : InInts w' A n :=
  h.keep (Pr := (· < w.heap.size)) ⟨hb.os, hb.tape, hb.output, hb.size, hb.block⟩ (fun _ q => q)
/-- the numbers lie below block B -/
def IntsAt (w : World) (B : Nat) (A : Option Addr) (n : Nat) : Prop := n = 0 ∨ ∃ (b off : Nat), A = some ⟨b, off, none⟩ ∧ b < B ∧ ∀ k, k < n → ∃ z : Int, w.cell? ⟨b, off + k, none⟩ = some (.int .i64 z)
theorem IntsAt.of {w : World} {A : Option Addr} {n : Nat} (h : InInts w A n) : IntsAt w w.heap.size A n := h
theorem IntsAt.keep {Pr : Nat → Prop} {w w' : World} {B : Nat} {A : Option Addr} {n : Nat} (h : IntsAt w B A n) (hk : Keep Pr w w') (hp : ∀ b, b < B → Pr b) : IntsAt w' B A n := by
  rcases h with h | ⟨b, off, rfl, hb, hc⟩
  · exact .inl h
  · refine .inr ⟨b, off, rfl, hb, fun k hk2 => ?_⟩
    obtain ⟨z, hz⟩ := hc k hk2
    exact ⟨z, (hk.cell (hp b hb) _).trans hz⟩
/-- block g holds the choices: the numbers A, n, c and how many have been taken -/
def Cho (w : World) (g : Nat) (A : Option Addr) (n c i : Nat) : Prop := Blk w g 89 #[.slice A n c, .int .i64 i]

theorem new_cho (w : World) (A : Option Addr) (n c : Nat) :
    Calls Tryd.prog 37 #[.slice A n c] w fun e w' => e = .returned (.pointer (some ⟨w.heap.size, 0, none⟩)) ∧ w' = w.alloc (.cells #[.slice A n c, .int .i64 0] 89) := by
  go_enter Tryd.func37, Tryd.ntmps37
  go_wp2
  go_ret
  exact ⟨rfl, rfl⟩

theorem left_cho (w : World) (g : Nat) (A : Option Addr) (n c i : Nat) (h : Cho w g A n c i) :
    Calls Tryd.prog 49 #[.pointer (some ⟨g, 0, none⟩)] w fun e w' => e = .returned (.bool (decide (i < n))) ∧ ∃ m, w' = w.drewN m := by
  have k0 : w.cell? ⟨g, 0, none⟩ = some (.slice A n c) := h.cell 0
  have k1 : w.cell? ⟨g, 1, none⟩ = some (.int .i64 i) := h.cell 1
  clear h
  go_enter Tryd.func49, Tryd.ntmps49
  go_wp2_with fail
  go_quiet (fail)
  go_wp2
  go_ret
  exact ⟨ret_bool (by simp), _, rfl⟩

def NextPost (m : Nat) (w : World) (g : Nat) (A : Option Addr) (n c i : Nat) (e : Ending) (w' : World) : Prop :=
  ∃ r i' : Nat, r < m ∧ i ≤ i' ∧ i' ≤ i + 1 ∧ (i < n → i' = i + 1) ∧ i' ≤ max i n ∧ e = .returned (.int .i64 r) ∧ Cho w' g A n c i' ∧ w.grownBy w' (some g)
set_option maxRecDepth 100000 in
set_option maxHeartbeats 3200000 in
theorem next_cho (m : Nat) (hm : 0 < m) (hm2 : m ≤ 100000) (w : World) (B g : Nat) (A : Option Addr) (n c i : Nat) (h : Cho w g A n c i) (hn : n ≤ maxLen) (hi : i ≤ n) (hA : IntsAt w B A n) (hB : B ≤ g) :
    Calls Tryd.prog 39 #[.pointer (some ⟨g, 0, none⟩), .int .i64 m] w (NextPost m w g A n c i) := by
  unfold maxLen at hn
  have k0 : w.cell? ⟨g, 0, none⟩ = some (.slice A n c) := h.cell 0
  have k1 : w.cell? ⟨g, 1, none⟩ = some (.int .i64 i) := h.cell 1
  have f1 : w.frozen? ⟨g, 1, none⟩ = false := h.frozen 1
  have HC := Lib.hid h
  clear h
  have HM := Lib.hid (fun v W => mod_any v m hm hm2 W)
  have HML := Lib.hid (fun v => modK_lt v m hm)
  by_cases hlt : i < n
  · rcases hA with h0 | ⟨b, off, rfl, hb, hcs⟩
    · omega
    obtain ⟨z, hz⟩ := hcs i hlt
    have hne : ¬ b = g := by omega
    clear hcs hm hm2
    go_enter Tryd.func39, Tryd.ntmps39
    go_wp2_with fail
    go_quiet (fail)
    go_wp2_with fail
    have HC2 := Lib.hid (Blk.set_ (Blk.drewN HC.out nq) 1 (.int .i64 ((i : Int) + 1)))
    have HG2 : Hid (w.grownBy ((w.drewN nq).setCell ⟨g, 1, none⟩ (.int .i64 ((i : Int) + 1))) (some g)) := only_set (only_drewN (only_refl w (some g)) nq) 1 _
    have hz2 : ((w.drewN nq).setCell ⟨g, 1, none⟩ (.int .i64 ((i : Int) + 1))).cell? ⟨b, off + i, none⟩ = some (.int .i64 z) := (World.cell?_setCell_other (w.drewN nq) ⟨g, 1, none⟩ ⟨b, off + i, none⟩ _ (fun e => by injection e with e; omega)).trans hz
    generalize (w.drewN nq).setCell ⟨g, 1, none⟩ (.int .i64 ((i : Int) + 1)) = w1 at *
    have j0 : w1.cell? ⟨g, 0, none⟩ = some (.slice (some ⟨b, off, none⟩) n c) := HC2.out.cell 0
    have j1 : w1.cell? ⟨g, 1, none⟩ = some (.int .i64 ((i : Int) + 1)) := HC2.out.cell 1
    have hw1 : IntKind.i64.wrap ((i : Int) + 1 - 1) = (i : Int) := by rw [show ((i : Int) + 1 - 1) = i by omega]; exact IntWalk.i64_in _ (by omega)
    have hw2 : ((i : Int) + 1 - 1) = i := by omega
    have b0 : (0 : Int) ≤ (i : Int) := by omega
    have b1 : (i : Int) < (n : Int) := by omega
    clear k0 k1 f1 hz
    go_quiet ((go_at_call 50; exact Calls.quiet_of_same (HM.out _ _)))
    go_wp2
    go_ret
    exact ⟨modK z m, i + 1, HML.out z, by omega, by omega, fun _ => rfl, by omega, rfl, HC2.out, only_drewN HG2.out _⟩
  · have hg : ¬ (i < n) := hlt
    go_enter Tryd.func39, Tryd.ntmps39
    go_wp2_with fail
    go_quiet (fail)
    go_wp2
    go_ret
    exact ⟨0, i, hm, by omega, by omega, fun q => absurd q hg, by omega, rfl, HC.out, only_drewN (only_refl w (some g)) _⟩

theorem next_at (M : Int) (m : Nat) (hM : M = (m : Int)) (hm : 0 < m) (hm2 : m ≤ 100000) (w : World) (B g : Nat) (A : Option Addr) (n c i : Nat) (h : Cho w g A n c i) (hn : n ≤ maxLen) (hi : i ≤ n) (hA : IntsAt w B A n) (hB : B ≤ g) :
    Calls Tryd.prog 39 #[.pointer (some ⟨g, 0, none⟩), .int .i64 M] w (NextPost m w g A n c i) := by
  subst hM
  exact next_cho m hm hm2 w B g A n c i h hn hi hA hB


/-- the choices of a call that keeps what was there -/
structure CInv (w : World) (A : Option Addr) (n c : Nat) (wr : World) (ch : Nat) : Prop where
  cho : Cho wr w.heap.size A n c ch
  chn : ch ≤ n
  ints : IntsAt wr w.heap.size A n
  below : Below w.heap.size w wr
section
variable {w wr w' : World} {A : Option Addr} {n c ch : Nat}
theorem CInv.drewN (h : CInv w A n c wr ch) (m : Nat) : CInv w A n c (wr.drewN m) ch := ⟨Blk.drewN h.cho m, h.chn, h.ints, below_drewN' h.below m⟩
theorem CInv.alloc (h : CInv w A n c wr ch) (o : Obj) : CInv w A n c (wr.alloc o) ch :=
  ⟨Blk.alloc h.cho o, h.chn, h.ints.keep (Pr := (· < wr.heap.size)) ((Keep.refl _ wr).alloc (fun _ q => q) o) (fun k hk => by have := h.below.size; omega), h.below.alloc h.below.size o⟩
theorem CInv.start (w : World) (A : Option Addr) (n c : Nat) (h : InInts w A n) : CInv w A n c (w.alloc (.cells #[.slice A n c, .int .i64 0] 89)) 0 :=
  ⟨Blk.new w _ _, Nat.zero_le _, (IntsAt.of h).keep (Pr := (· < w.heap.size)) ((Keep.refl _ w).alloc (fun _ q => q) _) (fun _ q => q), (Below.refl _ _).alloc (Nat.le_refl _) _⟩
theorem CInv.next (h : CInv w A n c wr ch) {ch' : Nat} (hc : Cho w' w.heap.size A n c ch') (hn : ch' ≤ n) (hg : wr.grownBy w' (some w.heap.size)) : CInv w A n c w' ch' :=
  ⟨hc, hn, h.ints.keep (Pr := (· < w.heap.size)) ⟨hg.os, hg.tape, hg.output, hg.size, fun k hk => hg.block k (by have := h.below.size; omega) (by intro e; injection e with e; omega)⟩ (fun _ q => q),
    below_grown h.below hg (Nat.le_refl _) (Nat.le_refl _)⟩
end
theorem next_c (M : Int) (m : Nat) (hM : M = (m : Int)) (hm : 0 < m) (hm2 : m ≤ 100000) {w wr : World} {A : Option Addr} {n c ch : Nat} (h : CInv w A n c wr ch) (hn : n ≤ maxLen) :
    Calls Tryd.prog 39 #[.pointer (some ⟨w.heap.size, 0, none⟩), .int .i64 M] wr fun e w' => ∃ r ch' : Nat, r < m ∧ e = .returned (.int .i64 r) ∧ CInv w A n c w' ch' ∧ wr.grownBy w' (some w.heap.size) := by
  refine (next_at M m hM hm hm2 wr w.heap.size w.heap.size A n c ch h.cho hn h.chn h.ints (Nat.le_refl _)).mono ?_
  rintro e w' ⟨r, ch', hr, _, _, _, hch, rfl, hC, hG⟩
  exact ⟨r, ch', hr, rfl, h.next hC (by have := h.chn; omega) hG, hG⟩

set_option maxRecDepth 100000 in
set_option maxHeartbeats 3200000 in
theorem digit_any (k : Nat) (hk : k ≤ 9) (w : World) :
    Calls Tryd.prog 38 #[.int .i64 k] w fun e w' => ∃ s : ByteArray, e = .returned (.string s) ∧ s.size ≤ 1 ∧ w' = w := by
  go_enter Tryd.func38, Tryd.ntmps38
  go_wp2
  go_ret
  exact ⟨_, rfl, by simp; omega, rfl⟩

theorem size_lit (a : Array UInt8) : (⟨a⟩ : ByteArray).size = a.size := rfl
def LRel (w : World) (A : Option Addr) (n c B : Nat) (t4 : Value) (wx : World) : Prop := ∃ (s : ByteArray) (ch : Nat), t4 = .string s ∧ s.size ≤ B ∧ Hid (CInv w A n c wx ch)
def tl4 : List Bs := [[83, 75, 73, 80], [80], [40, 98, 32, 45, 62, 32, 83, 84, 79, 80, 32, 91, 93, 32, 80, 41], [40, 80, 32, 124, 124, 124, 32, 83, 75, 73, 80, 41, 32, 92, 32, 123, 97, 125]]
def tl3 : List Bs := [[122], [121, 32, 43, 32, 122], [120]]
theorem tl4_le (k : Nat) (h : k < 4) : (tl4.getD k []).length ≤ 20 := by
  have : ∀ k : Fin 4, (tl4.getD k.val []).length ≤ 20 := by decide
  exact this ⟨k, h⟩
theorem tl3_le (k : Nat) (h : k < 3) : (tl3.getD k []).length ≤ 20 := by
  have : ∀ k : Fin 3, (tl3.getD k.val []).length ≤ 20 := by decide
  exact this ⟨k, h⟩

set_option maxRecDepth 100000 in
set_option maxHeartbeats 6400000 in
theorem layouted_any (w : World) (A : Option Addr) (n c : Nat) (hA : InInts w A n) (hn : n ≤ maxLen) :
    Calls Tryd.prog 18 #[.slice A n c] w fun e w' => ∃ s : ByteArray, e = .returned (.string s) ∧ s.size ≤ 2000 ∧ Below w.heap.size w w' := by
  have HC := Lib.hid (CInv.start w A n c hA)
  have HN := Lib.hid hn
  clear hA hn
  go_enter Tryd.func18, Tryd.ntmps18
  go_wp2_with fail
  refine (new_cho w A n c).mono ?_
  rintro e w0 ⟨rfl, rfl⟩
  go_wp2_with fail
  refine (next_c 3 3 rfl (by decide) (by decide) HC.out HN.out).mono ?_
  rintro e w1 ⟨r, ch1, hr, rfl, hC1, -⟩
  replace HC := Lib.hid hC1
  clear hC1
  go_wp2_with fail
  refine (digit_any r (by omega) _).mono ?_
  rintro e w2 ⟨d, rfl, hd, rfl⟩
  go_wp2_with fail
  refine (next_c 2 2 rfl (by decide) (by decide) HC.out HN.out).mono ?_
  rintro e w3 ⟨r2, ch2, hr2, rfl, hC2, -⟩
  replace HC := Lib.hid hC2
  clear hC2
  go_upto_if 14 with (fail)
  go_cut [4] (fun t4 wx => LRel w A n c 300 t4 wx)
  case first =>
    by_cases h1 : r2 = 1
    · have g1 : ((r2 : Int) == 1) = true := beq_iff_eq.2 (by omega)
      clear h1
      go_wp2_with fail
      refine (next_c 9 9 rfl (by decide) (by decide) HC.out HN.out).mono ?_
      rintro e w4 ⟨r3, ch_r3, h_r3, rfl, hC, -⟩
      replace HC := Lib.hid hC
      clear hC
      go_wp2_with fail
      refine (digit_any r3 (by omega) _).mono ?_
      rintro e w5 ⟨d3, rfl, h_d3, rfl⟩
      go_wp2_with fail
      go_meet
      exact ⟨_, _, rfl, by first | omega | (simp [ByteArray.size_append, size_lit]; omega), HC⟩
    · have g1 : ((r2 : Int) == 1) = false := beq_eq_false_iff_ne.2 (by omega)
      clear h1
      go_wp2_with fail
      go_meet
      exact ⟨_, _, rfl, by first | omega | (simp [ByteArray.size_append, size_lit]; omega), HC⟩
  case rest =>
    obtain ⟨s4, ch4, rfl, hs4, HC4⟩ := hcut
    clear HC
    have HC := HC4
    clear HC4
    go_wp2_with fail
    refine (next_c 2 2 rfl (by decide) (by decide) HC.out HN.out).mono ?_
    rintro e w6 ⟨r5, ch_r5, h_r5, rfl, hC, -⟩
    replace HC := Lib.hid hC
    clear hC
    go_upto_if 26 with (fail)
    go_cut [4] (fun t4 wx => LRel w A n c 500 t4 wx)
    case first =>
      by_cases h1 : r5 = 1
      · have g1 : ((r5 : Int) == 1) = true := beq_iff_eq.2 (by omega)
        clear h1
        go_wp2_with fail
        refine (next_c 9 9 rfl (by decide) (by decide) HC.out HN.out).mono ?_
        rintro e w7 ⟨r6, ch_r6, h_r6, rfl, hC, -⟩
        replace HC := Lib.hid hC
        clear hC
        go_wp2_with fail
        refine (digit_any r6 (by omega) _).mono ?_
        rintro e w8 ⟨d6, rfl, h_d6, rfl⟩
        go_wp2_with fail
        go_meet
        exact ⟨_, _, rfl, by first | omega | (simp [ByteArray.size_append, size_lit]; omega), HC⟩
      · have g1 : ((r5 : Int) == 1) = false := beq_eq_false_iff_ne.2 (by omega)
        clear h1
        go_wp2_with fail
        go_meet
        exact ⟨_, _, rfl, by first | omega | (simp [ByteArray.size_append, size_lit]; omega), HC⟩
    case rest =>
      obtain ⟨s5, ch5, rfl, hs5, HC5⟩ := hcut
      clear HC
      have HC := HC5
      clear HC5
      go_wp2_with fail
      refine (next_c 2 2 rfl (by decide) (by decide) HC.out HN.out).mono ?_
      rintro e w9 ⟨r7, ch_r7, h_r7, rfl, hC, -⟩
      replace HC := Lib.hid hC
      clear hC
      go_upto_if 36 with (fail)
      go_cut [4] (fun t4 wx => LRel w A n c 800 t4 wx)
      case first =>
        by_cases h1 : r7 = 1
        · have g1 : ((r7 : Int) == 1) = true := beq_iff_eq.2 (by omega)
          clear h1
          go_wp2_with fail
          have hzx := HC.out.below.size
          have HSB : Hid ((w9.alloc (strBlock tl4)).heap[w9.heap.size]? = some (strBlock tl4)) := heap_alloc_new w9 _
          refine (next_c 4 4 rfl (by decide) (by decide) (HC.out.alloc _) HN.out).mono ?_
          rintro e w10 ⟨r8, ch_r8, h_r8, rfl, hC, hG⟩
          have hst : w10.cell? ⟨w9.heap.size, r8, none⟩ = some (.string (S (tl4.getD r8 []))) := str_cell ((hG.block _ (by simp) (by intro e; injection e with e; have := HC.out.cho.lt; omega)).trans HSB.out) r8 (show r8 < tl4.length from h_r8)
          have hle := tl4_le r8 h_r8
          generalize tl4.getD r8 [] = st at *
          replace HC := Lib.hid hC
          clear hC hG HSB
          have b0 : (0 : Int) ≤ (r8 : Int) := by omega
          have b4 : (r8 : Int) < 4 := by omega
          go_wp2_with fail
          go_meet
          exact ⟨_, _, rfl, by first | omega | (simp [ByteArray.size_append, size_lit]; omega), HC⟩
        · have g1 : ((r7 : Int) == 1) = false := beq_eq_false_iff_ne.2 (by omega)
          clear h1
          go_wp2_with fail
          go_meet
          exact ⟨_, _, rfl, by first | omega | (simp [ByteArray.size_append, size_lit]; omega), HC⟩
      case rest =>
        obtain ⟨s6, ch6, rfl, hs6, HC6⟩ := hcut
        clear HC
        have HC := HC6
        clear HC6
        go_wp2_with fail
        have hzx := HC.out.below.size
        have HSB : Hid ((wc.alloc (strBlock tl3)).heap[wc.heap.size]? = some (strBlock tl3)) := heap_alloc_new wc _
        refine (next_c 3 3 rfl (by decide) (by decide) (HC.out.alloc _) HN.out).mono ?_
        rintro e w11 ⟨r9, ch_r9, h_r9, rfl, hC, hG⟩
        have hst : w11.cell? ⟨wc.heap.size, r9, none⟩ = some (.string (S (tl3.getD r9 []))) := str_cell ((hG.block _ (by simp) (by intro e; injection e with e; have := HC.out.cho.lt; omega)).trans HSB.out) r9 (show r9 < tl3.length from h_r9)
        have hle := tl3_le r9 h_r9
        generalize tl3.getD r9 [] = st at *
        replace HC := Lib.hid hC
        clear hC hG HSB
        have b0 : (0 : Int) ≤ (r9 : Int) := by omega
        have b3 : (r9 : Int) < 3 := by omega
        go_wp2_with fail
        refine (next_c 2 2 rfl (by decide) (by decide) HC.out HN.out).mono ?_
        rintro e w12 ⟨r10, ch_r10, h_r10, rfl, hC, -⟩
        replace HC := Lib.hid hC
        clear hC
        go_upto_if 57 with (fail)
        go_cut [4] (fun t4 wx => LRel w A n c 1500 t4 wx)
        case first =>
          by_cases h1 : r10 = 1
          · have g1 : ((r10 : Int) == 1) = true := beq_iff_eq.2 (by omega)
            clear h1
            go_wp2_with fail
            go_wp2_with fail
            go_meet
            exact ⟨_, _, rfl, by first | omega | (simp [ByteArray.size_append, size_lit]; omega), HC⟩
          · have g1 : ((r10 : Int) == 1) = false := beq_eq_false_iff_ne.2 (by omega)
            clear h1
            go_wp2_with fail
            go_meet
            exact ⟨_, _, rfl, by first | omega | (simp [ByteArray.size_append, size_lit]; omega), HC⟩
        case rest =>
          obtain ⟨s7, ch7, rfl, hs7, HC7⟩ := hcut
          clear HC
          go_wp2_with fail
          go_ret
          exact ⟨_, rfl, by omega, HC7.out.below⟩

end Go.Proofs.YtbegenmhfmpgpaaDoor
