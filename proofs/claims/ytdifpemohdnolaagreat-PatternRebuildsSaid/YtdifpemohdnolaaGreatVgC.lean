/- The statements' Value: a value that is nested at most so deep, and short. Condition: at most seven levels. -/
-- by tools/gen_vgc.py
import Derived.Test.YtdifpemohdnolaaGreatCho
import Derived.Test.YtdifpemohdnolaaGreatVgM
import Derived.Test.YtdifpemohdnolaaGreatVrO
namespace Go.Proofs.YtdifpemohdnolaaGreat
open Go.RowKit

/-- block g holds choices, over numbers that lie below it -/
def CSt (w : World) (g : Nat) (A : Option Addr) (n c : Nat) : Prop := ∃ i B, Cho w g A n c i ∧ i ≤ n ∧ B ≤ g ∧ IntsAt w B A n
section
variable {w w' : World} {g n c : Nat} {A : Option Addr}
theorem CSt.lt (h : CSt w g A n c) : g < w.heap.size := by obtain ⟨i, B, h1, _⟩ := h; exact Blk.lt h1
theorem CSt.below (h : CSt w g A n c) (hb : Below w.heap.size w w') : CSt w' g A n c := by
  have hg := h.lt
  obtain ⟨i, B, h1, h2, h3, h4⟩ := h
  exact ⟨i, B, Blk.below h1 hb hg, h2, h3, h4.keep (Pr := (· < w.heap.size)) ⟨hb.os, hb.tape, hb.output, hb.size, hb.block⟩ (fun b q => by omega)⟩
theorem CSt.alloc (h : CSt w g A n c) (o : Obj) : CSt (w.alloc o) g A n c := h.below ((Below.refl _ _).alloc (Nat.le_refl _) o)
theorem CSt.drew (h : CSt w g A n c) : CSt w.drew g A n c := h
theorem CSt.drewN (h : CSt w g A n c) (m : Nat) : CSt (w.drewN m) g A n c := h
theorem CSt.start {w : World} {A : Option Addr} {n c : Nat} (h : InInts w A n) : CSt (w.alloc (.cells #[.slice A n c, .int .i64 0] 56)) w.heap.size A n c :=
  ⟨0, w.heap.size, Blk.new w _ _, Nat.zero_le _, Nat.le_refl _, (IntsAt.of h).keep (Pr := (· < w.heap.size)) ((Keep.refl _ w).alloc (fun _ q => q) _) (fun _ q => q)⟩
/-- the next choice -/
theorem next_st (M : Int) (m : Nat) (hM : M = (m : Int)) (hm : 0 < m) (hm2 : m ≤ 100000) (h : CSt w g A n c) (hn : n ≤ maxLen) :
    Calls Tryz.prog 21 #[.pointer (some ⟨g, 0, none⟩), .int .i64 M] w fun e w' => ∃ r : Nat, r < m ∧ e = .returned (.int .i64 r) ∧ CSt w' g A n c ∧ w.grownBy w' (some g) := by
  obtain ⟨i, B, h1, h2, h3, h4⟩ := h
  refine (next_at M m hM hm hm2 w B g A n c i h1 hn h2 h4 h3).mono ?_
  rintro e w' ⟨r, i', hr, _, _, _, hi, rfl, hC, hG⟩
  exact ⟨r, hr, rfl, ⟨i', B, hC, by omega, h3, h4.keep (Pr := (· < g)) ⟨hG.os, hG.tape, hG.output, hG.size, fun k hk => hG.block k (by have := Blk.lt h1; omega) (by intro e; injection e with e; omega)⟩ (fun b q => by omega)⟩, hG⟩
theorem row_g {base z m : Nat} {e : TypeId} {v : Value} {xs : List Value} (h : w.ownsRow base e z v m xs) (hb : g < base) : ∀ k, v.ownBlock = some k → (some g : Option Nat) ≠ some k := by
  intro k hk q
  injection q with q
  have := (h.lt k hk).1
  omega
theorem ne_g {g b : Nat} (h : g < b) : (some b : Option Nat) ≠ some g := by intro q; injection q; omega
theorem blk_in {t : TypeId} {cs : Array Value} (h : Blk w g t cs) : InC w (some ⟨g, 0, none⟩) cs.toList :=
  .inr ⟨g, 0, rfl, h.lt, fun i u hu => by rw [Nat.zero_add, h.cell]; simpa using hu⟩
end

theorem next_n (m : Nat) (hm : 0 < m) (hm2 : m ≤ 100000) {w : World} {g n c : Nat} {A : Option Addr} (h : CSt w g A n c) (hn : n ≤ maxLen) :
    Calls Tryz.prog 21 #[.pointer (some ⟨g, 0, none⟩), .int .i64 (m : Int)] w fun e w' => ∃ r : Nat, r < m ∧ e = .returned (.int .i64 r) ∧ CSt w' g A n c ∧ w.grownBy w' (some g) := next_st m m rfl hm hm2 h hn
set_option maxRecDepth 100000 in
set_option maxHeartbeats 3200000 in
theorem number_st {w : World} {g n c : Nat} {A : Option Addr} (hC : CSt w g A n c) (hn : n ≤ maxLen) :
    Calls Tryz.prog 26 #[.pointer (some ⟨g, 0, none⟩)] w fun e w' => ∃ z : Int, e = .returned (.int .i64 z) ∧ -9223372036854775808 ≤ z ∧ z ≤ 9223372036854775807 ∧ CSt w' g A n c ∧ w.grownBy w' (some g) := by
  have HC := hide hC
  have HN := Lib.hid hn
  clear hC hn
  go_enter Tryz.func26, Tryz.ntmps26
  go_wp2_with fail
  refine (next_st 9 9 rfl (by decide) (by decide) (unhide HC) HN.out).mono ?_
  rintro e w1 ⟨r1, hr1, rfl, hC1, hG1⟩
  have HC1 := hide hC1
  have HG1 := hide hG1
  clear hC1 hG1 HC
  by_cases h6 : r1 = 6
  · subst h6
    go_wp2_with fail
    go_ret
    exact ⟨-1, rfl, by omega, by omega, unhide HC1, unhide HG1⟩
  have g6 : ((r1 : Int) == 6) = false := beq_eq_false_iff_ne.2 (by omega)
  by_cases h7 : r1 = 7
  · subst h7
    go_wp2_with fail
    refine (next_st 2 2 rfl (by decide) (by decide) (unhide HC1) HN.out).mono ?_
    rintro e w2 ⟨r2, hr2, rfl, hC2, hG2⟩
    have HC2 := hide hC2
    have HG2 := hide (only_trans (unhide HG1) hG2)
    clear hC2 hG2
    go_wp2_with fail
    go_ret
    exact ⟨_, rfl, by omega, by omega, unhide HC2, unhide HG2⟩
  have g7 : ((r1 : Int) == 7) = false := beq_eq_false_iff_ne.2 (by omega)
  by_cases h8 : r1 = 8
  · subst h8
    go_wp2_with fail
    refine (next_st 2 2 rfl (by decide) (by decide) (unhide HC1) HN.out).mono ?_
    rintro e w2 ⟨r2, hr2, rfl, hC2, hG2⟩
    have HC2 := hide hC2
    have HG2 := hide (only_trans (unhide HG1) hG2)
    clear hC2 hG2
    go_wp2_with fail
    go_ret
    exact ⟨_, rfl, by omega, by omega, unhide HC2, unhide HG2⟩
  have g8 : ((r1 : Int) == 8) = false := beq_eq_false_iff_ne.2 (by omega)
  go_wp2_with fail
  refine (next_st 7 7 rfl (by decide) (by decide) (unhide HC1) HN.out).mono ?_
  rintro e w2 ⟨r2, hr2, rfl, hC2, hG2⟩
  have HC2 := hide hC2
  have HG2 := hide (only_trans (unhide HG1) hG2)
  clear hC2 hG2
  go_wp2_with fail
  go_ret
  exact ⟨_, rfl, by omega, by omega, unhide HC2, unhide HG2⟩

end Go.Proofs.YtdifpemohdnolaaGreat
namespace Go.Proofs.YtdifpemohdnolaaGreat
open Go.RowKit VM

section
variable {w w' wr : World} {g n c : Nat} {A : Option Addr}
theorem only_row {v : Value} (h : w.grownBy wr (some g)) (k : wr.grownBy w' v.ownBlock) (hv : ∀ j, v.ownBlock = some j → w.heap.size ≤ j) : w.grownBy w' (some g) :=
  ⟨k.os.trans h.os, k.tape.trans h.tape, k.output.trans h.output, Nat.le_trans h.size k.size, fun i hi hne => (k.block i (Nat.lt_of_lt_of_le hi h.size) (fun e => by have := hv i e.symm; omega)).trans (h.block i hi hne)⟩
theorem CSt.row {row : Option Nat} (h : CSt w g A n c) (k : w.grownBy w' row) (hr : ∀ j, row = some j → g < j) : CSt w' g A n c := by
  have hg := h.lt
  obtain ⟨i, B, h1, h2, h3, h4⟩ := h
  exact ⟨i, B, Blk.grown h1 k (fun e => by have := hr g e.symm; omega), h2, h3, h4.keep (Pr := (· ≤ g)) ⟨k.os, k.tape, k.output, k.size, fun j hj => k.block j (by omega) (fun e => by have := hr j e.symm; omega)⟩ (fun b q => by omega)⟩
end
/-- what Value leaves -/
def GvPost (w : World) (g : Nat) (A : Option Addr) (n c d : Nat) (e : Ending) (w' : World) : Prop :=
  ∃ s, e = .returned (.string s) ∧ ValOK d s ∧ CSt w' g A n c ∧ w.grownBy w' (some g)
def GvCon (d : Nat) : Prop := ∀ (D : Int), D = (d : Int) → ∀ (w : World) (g : Nat) (A : Option Addr) (n c : Nat), CSt w g A n c → n ≤ maxLen →
  Calls Tryz.prog 11 #[.pointer (some ⟨g, 0, none⟩), .int .i64 D] w (GvPost w g A n c d)
/-- what Values leaves -/
def GsPost (w : World) (g : Nat) (A : Option Addr) (n c d m : Nat) (e : Ending) (w' : World) : Prop :=
  ∃ (B : Option Addr) (cb L : Nat) (l : List ByteArray), e = .returned (.slice B L cb) ∧ L = l.length ∧ L < m ∧ (∀ s ∈ l, ValOK d s) ∧ w'.ownsRow w.heap.size 23 1 (.slice B L cb) L (l.map Value.string) ∧ CSt w' g A n c ∧ w.grownBy w' (some g)
def GsCon (d : Nat) : Prop := ∀ (D M : Int) (m : Nat), D = (d : Int) → M = (m : Int) → 0 < m → m ≤ 100 → ∀ (w : World) (g : Nat) (A : Option Addr) (n c : Nat), CSt w g A n c → n ≤ maxLen →
  Calls Tryz.prog 29 #[.pointer (some ⟨g, 0, none⟩), .int .i64 D, .int .i64 M] w (GsPost w g A n c d m)
/-- one string more in a row of the call's own -/
theorem grow_all {w wr : World} {g n c : Nat} {A : Option Addr} {v : Value} {L : Nat} {xs : List Value} (hC : CSt wr g A n c) (hG : w.grownBy wr (some g)) (hgl : g < w.heap.size) (s : ByteArray)
    (hO : wr.ownsRow w.heap.size 23 1 v L xs) {w4 : World} (hgrow : (wr.alloc (.cells #[.string s] 23)).grownBy w4 v.ownBlock) : CSt w4 g A n c ∧ w.grownBy w4 (some g) :=
  ⟨(hC.alloc _).row hgrow (fun j hj => by have := (hO.lt j hj).1; omega), only_row (only_alloc hG _) hgrow (fun j hj => (hO.lt j hj).1)⟩
set_option maxRecDepth 100000 in
set_option maxHeartbeats 6400000 in
theorem values_st (d : Nat) (hd : d ≤ 100) (ih : GvCon d) : GsCon d := by
  intro D M m hD hM hm hm2 w g A n c hC hn
  have IH := hide (ih D hD)
  have HC := hide hC
  have HN := Lib.hid hn
  have hgl := hC.lt
  have HK0 : Hid (w.grownBy w (some g)) := only_refl w (some g)
  obtain ⟨i0, hi0, hiz0, hiz1, hiz2⟩ := info_parts val_info
  have hD2 : D ≤ 100 := by omega
  have HNX := Lib.hid (fun (W : World) h => next_st M m hM hm (by omega) (w := W) (g := g) (n := n) (c := c) (A := A) h HN.out)
  clear hD hM hC hn ih
  go_enter Tryz.func29, Tryz.ntmps29
  go_wp2_with fail
  refine (HNX.out _ (unhide HC)).mono ?_
  rintro e w1 ⟨R, hR, rfl, hC1, hG1⟩
  have HC1 := hide hC1
  have HG1 := hide hG1
  clear hC1 hG1 HC
  go_wp2_with fail
  go_loopw [7, 8] (fun lv nv wr => ∃ (r L : Nat) (l : List ByteArray), nv = .int .i64 r ∧ r + L = R ∧ Hid (L = l.length) ∧ Hid (∀ s ∈ l, ValOK d s) ∧ Hid (wr.ownsRow w.heap.size 23 1 lv L (l.map Value.string)) ∧ Hid (CSt wr g A n c) ∧ Hid (w.grownBy wr (some g))) (fun _ nv _ => (intOf nv).toNat)
  case atStart => exact ⟨R, 0, [], rfl, by omega, rfl, fun s h => (by cases h), World.ownsRow_nil _ _ _ _, unhide HC1, unhide HG1⟩
  case round =>
    obtain ⟨r, L, l, rfl, hrL, hL, hV, hO, hC, hG⟩ := hrel
    obtain ⟨A3, c3, rfl⟩ := owns_form hO.out
    by_cases hr0 : 0 < r
    · go_wp2_with fail
      refine ((unhide IH) wr g A n c hC.out HN.out).mono ?_
      rintro e w3 ⟨s, rfl, hs3, hC3, hG3⟩
      have HS3 := Lib.hid hs3
      have HC3 := hide hC3
      have HO3 := hide (owns_other hO.out hG3 (row_g hO.out hgl))
      have HG3 := hide (only_trans hG.out hG3)
      clear hs3 hC3 hG3 hO hC hG
      have HO4 := hide ((unhide HO3).alloc (.cells #[.string s] 23))
      have hsz := (unhide HG3).size
      go_wp2_with (at_builtin; refine wpList_app _ rfl _ _ 24 rfl w.heap.size 23 i0 _ 1 16 Tryz.underlying24 hi0 hiz0 hiz1 hiz2 rfl (by decide) _ L (l.map Value.string) rfl (unhide HO4) (some ⟨w3.heap.size, 0, none⟩) 1 1 [.string s] rfl rfl (new_in w3 23 #[.string s]) (one_str s) (by unfold maxLen; omega) (by omega) (by simp; omega) ?_; intro v5 w5 hown5 hgrow5 _)
      have hall := grow_all (unhide HC3) (unhide HG3) hgl s (unhide HO3) hgrow5
      have HC5 := hide hall.1
      have HG5 := hide hall.2
      have HO5 : Hid (w5.ownsRow w.heap.size 23 1 v5 (L + 1) ((l ++ [s]).map Value.string)) := hide (by rw [List.map_append]; exact hown5)
      have HV5 : Hid (∀ x ∈ l ++ [s], ValOK d x) := Lib.hid (fun x hx => by
        rcases List.mem_append.1 hx with hx | hx
        · exact hV.out x hx
        · simp at hx; subst hx; exact HS3.out)
      clear hall hown5 hgrow5
      obtain ⟨q, rfl⟩ : ∃ q, r = q + 1 := ⟨r - 1, by omega⟩
      have hw2 : ((q : Int) + 1 - 1) = q := by omega
      go_wp2_with fail
      go_roundw
      case rel => exact ⟨q, L + 1, l ++ [s], by go_num, by omega, by rw [List.length_append, ← hL.out]; rfl, HV5.out, unhide HO5, unhide HC5, unhide HG5⟩
      case measure => simp [intOf]
    · go_wp2_with fail
      go_ret
      exact ⟨A3, c3, L, l, rfl, hL.out, by omega, hV.out, hO.out, hC.out, hG.out⟩

end Go.Proofs.YtdifpemohdnolaaGreat
namespace Go.Proofs.YtdifpemohdnolaaGreat
open Go.RowKit VM

theorem rboolB_any (b : Bool) (w : World) : Calls Tryz.prog 27 #[.bool b] w fun e w' => e = .returned (.string (boolB b)) ∧ Below w.heap.size w w' := rbool_any b w
set_option linter.unusedSimpArgs false in
set_option maxRecDepth 100000 in
set_option maxHeartbeats 6400000 in
theorem value_one : GvCon 1 := by
  intro D hD w g A n c hC hn
  obtain rfl : D = 1 := by omega
  have HC := hide hC
  have HN := Lib.hid hn
  have HG : Hid (w.grownBy w (some g)) := only_refl w (some g)
  clear hD hC hn
  go_enter Tryz.func11, Tryz.ntmps11
  go_wp2_with fail
  refine (next_st 9 9 rfl (by decide) (by decide) (unhide HC) HN.out).mono ?_
  rintro e w0 ⟨r0, hr0, rfl, hC0, hG0⟩
  have HC0 := hide hC0
  have HG0 := hide hG0
  clear hC0 hG0 HC HG
  have hq1 : ((r0 : Int).tmod 3) = ((r0 % 3 : Nat) : Int) := by rw [Int.tmod_eq_emod_of_nonneg (by omega)]; omega
  have hq2 : r0 % 3 < 3 := Nat.mod_lt _ (by decide)
  generalize r0 % 3 = q at *
  have hc : q = 0 ∨ q = 1 ∨ q = 2 := by omega
  rcases hc with rfl | rfl | rfl
  · go_wp2_with fail
    refine (number_st (unhide HC0) HN.out).mono ?_
    rintro e w1 ⟨z1, rfl, hz1, hy1, hC1, hG1⟩
    have HC1 := hide hC1
    have HG1 := hide (only_trans (unhide HG0) hG1)
    clear hC1 hG1
    go_wp2_with fail
    refine (rint_any z1 _).mono ?_
    rintro e w2 ⟨rfl, hb2⟩
    have HC2 := hide ((unhide HC1).below hb2)
    have HG2 := hide (only_trans (unhide HG1) (only_below hb2 _))
    clear hb2
    go_wp2_with fail
    go_ret
    exact ⟨_, rfl, val_int (by omega) _, unhide HC2, unhide HG2⟩
  · go_wp2_with fail
    refine (next_st 2 2 rfl (by decide) (by decide) (unhide HC0) HN.out).mono ?_
    rintro e w1 ⟨r1, hr1, rfl, hC1, hG1⟩
    have HC1 := hide hC1
    have HG1 := hide (only_trans (unhide HG0) hG1)
    clear hC1 hG1
    go_wp2_with fail
    refine (rboolB_any _ _).mono ?_
    rintro e w2 ⟨rfl, hb2⟩
    have HC2 := hide ((unhide HC1).below hb2)
    have HG2 := hide (only_trans (unhide HG1) (only_below hb2 _))
    clear hb2
    go_wp2_with fail
    go_ret
    exact ⟨_, rfl, val_bool (by omega) _, unhide HC2, unhide HG2⟩
  · go_wp2_with fail
    refine (next_st 4 4 rfl (by decide) (by decide) (unhide HC0) HN.out).mono ?_
    rintro e w1 ⟨r1, hr1, rfl, hC1, hG1⟩
    have HC1 := hide hC1
    have HG1 := hide (only_trans (unhide HG0) hG1)
    clear hC1 hG1
    go_wp2_with fail
    refine (rname_any r1 (by omega) _).mono ?_
    rintro e w2 ⟨rfl, hb2⟩
    have HC2 := hide ((unhide HC1).below hb2)
    have HG2 := hide (only_trans (unhide HG1) (only_below hb2 _))
    clear hb2
    go_wp2_with fail
    go_ret
    exact ⟨_, rfl, val_name (by omega) _, unhide HC2, unhide HG2⟩
set_option linter.unusedSimpArgs false in
set_option maxRecDepth 100000 in
set_option maxHeartbeats 12800000 in
theorem value_up (d : Nat) (hd : 1 ≤ d) (hd6 : d ≤ 6) (ih : GvCon d) : GvCon (d + 1) := by
  intro D hD w g A n c hC hn
  have IH := hide (ih (D - 1) (by omega))
  have IHS := hide (fun (M : Int) (m : Nat) hM => values_st d (by omega) ih (D - 1) M m (by omega) hM)
  have hD1 : 1 < D := by omega
  have hD2 : D ≤ 7 := by omega
  have g0 : decide (D ≤ 1) = false := decide_eq_false (by omega)
  obtain ⟨i0, hi0, hiz0, hiz1, hiz2⟩ := info_parts val_info
  have HC := hide hC
  have HN := Lib.hid hn
  have HG : Hid (w.grownBy w (some g)) := only_refl w (some g)
  clear hD hC hn ih
  go_enter Tryz.func11, Tryz.ntmps11
  go_wp2_with fail
  refine (next_st 9 9 rfl (by decide) (by decide) (unhide HC) HN.out).mono ?_
  rintro e w0 ⟨r0, hr0, rfl, hC0, hG0⟩
  have HC0 := hide hC0
  have HG0 := hide hG0
  clear hC0 hG0 HC HG
  have hc : r0 = 0 ∨ r0 = 1 ∨ r0 = 2 ∨ r0 = 3 ∨ r0 = 4 ∨ r0 = 5 ∨ r0 = 6 ∨ r0 = 7 ∨ r0 = 8 := by omega
  rcases hc with rfl | rfl | rfl | rfl | rfl | rfl | rfl | rfl | rfl
  · go_wp2_with fail
    refine (number_st (unhide HC0) HN.out).mono ?_
    rintro e w1 ⟨z1, rfl, hz1, hy1, hC1, hG1⟩
    have HC1 := hide hC1
    have HG1 := hide (only_trans (unhide HG0) hG1)
    clear hC1 hG1
    go_wp2_with fail
    refine (rint_any z1 _).mono ?_
    rintro e w2 ⟨rfl, hb2⟩
    have HC2 := hide ((unhide HC1).below hb2)
    have HG2 := hide (only_trans (unhide HG1) (only_below hb2 _))
    clear hb2
    go_wp2_with fail
    go_ret
    exact ⟨_, rfl, val_int (by omega) _, unhide HC2, unhide HG2⟩
  · go_wp2_with fail
    refine (next_st 2 2 rfl (by decide) (by decide) (unhide HC0) HN.out).mono ?_
    rintro e w1 ⟨r1, hr1, rfl, hC1, hG1⟩
    have HC1 := hide hC1
    have HG1 := hide (only_trans (unhide HG0) hG1)
    clear hC1 hG1
    go_wp2_with fail
    refine (rboolB_any _ _).mono ?_
    rintro e w2 ⟨rfl, hb2⟩
    have HC2 := hide ((unhide HC1).below hb2)
    have HG2 := hide (only_trans (unhide HG1) (only_below hb2 _))
    clear hb2
    go_wp2_with fail
    go_ret
    exact ⟨_, rfl, val_bool (by omega) _, unhide HC2, unhide HG2⟩
  · go_wp2_with fail
    refine (next_st 4 4 rfl (by decide) (by decide) (unhide HC0) HN.out).mono ?_
    rintro e w1 ⟨r1, hr1, rfl, hC1, hG1⟩
    have HC1 := hide hC1
    have HG1 := hide (only_trans (unhide HG0) hG1)
    clear hC1 hG1
    go_wp2_with fail
    refine (rname_any r1 (by omega) _).mono ?_
    rintro e w2 ⟨rfl, hb2⟩
    have HC2 := hide ((unhide HC1).below hb2)
    have HG2 := hide (only_trans (unhide HG1) (only_below hb2 _))
    clear hb2
    go_wp2_with fail
    go_ret
    exact ⟨_, rfl, val_name (by omega) _, unhide HC2, unhide HG2⟩
  · go_wp2_with fail
    refine ((unhide IH) _ g A n c (unhide HC0) HN.out).mono ?_
    rintro e w1 ⟨s1, rfl, hv1, hC1, hG1⟩
    have HV1 := Lib.hid hv1
    have HC1 := hide hC1
    have HG1 := hide (only_trans (unhide HG0) hG1)
    clear hv1 hC1 hG1
    go_wp2_with fail
    refine ((unhide IH) _ g A n c (unhide HC1) HN.out).mono ?_
    rintro e w2 ⟨s2, rfl, hv2, hC2, hG2⟩
    have HV2 := Lib.hid hv2
    have HC2 := hide hC2
    have HG2 := hide (only_trans (unhide HG1) hG2)
    clear hv2 hC2 hG2
    have HCa := hide ((unhide HC2).alloc (.cells #[.string s1, .string s2] 23))
    have HGa : Hid (w.grownBy (w2.alloc (.cells #[.string s1, .string s2] 23)) (some g)) := only_alloc (unhide HG2) _
    have HIa := hide (new_in w2 23 #[.string s1, .string s2])
    go_wp2_with fail
    refine (rmake_any 3 (by decide) [s1, s2] (some ⟨w2.heap.size, 0, none⟩) 2 2 _ rfl (by omega) (fun x hx => by simp at hx; rcases hx with rfl | rfl; (have := HV1.out.size (by omega); omega); (have := HV2.out.size (by omega); omega)) (unhide HIa)).mono ?_
    rintro e w3 ⟨rfl, hb3⟩
    have HC3 := hide ((unhide HCa).below hb3)
    have HG3 := hide (only_trans (unhide HGa) (only_below hb3 _))
    clear hb3
    go_wp2_with fail
    go_ret
    exact ⟨_, rfl, ok_tuple (by omega) (by omega) HV1.out HV2.out, unhide HC3, unhide HG3⟩
  · go_wp2_with fail
    have hgl1 := (unhide HC0).lt
    refine ((unhide IHS) 4 4 rfl (by decide) (by decide) _ g A n c (unhide HC0) HN.out).mono ?_
    rintro e w1 ⟨B1, cb1, L1, l1, rfl, hL1, hm1, hv1, hO1, hC1, hG1⟩
    have HL1 := Lib.hid hL1
    have HV1 := Lib.hid hv1
    have HI1 := hide (InC.own hO1)
    have HC1 := hide hC1
    have HG1 := hide (only_trans (unhide HG0) hG1)
    clear hL1 hv1 hO1 hC1 hG1
    go_wp2_with fail
    refine (rmake_any 4 (by decide) l1 B1 L1 cb1 _ HL1.out (by omega) (fun x hx => by have := (HV1.out x hx).size (by omega); omega) (unhide HI1)).mono ?_
    rintro e w2 ⟨rfl, hb2⟩
    have HC2 := hide ((unhide HC1).below hb2)
    have HG2 := hide (only_trans (unhide HG1) (only_below hb2 _))
    clear hb2
    go_wp2_with fail
    go_ret
    exact ⟨_, rfl, ok_seq (by omega) (by omega) HV1.out (by have := HL1.out; omega), unhide HC2, unhide HG2⟩
  · go_wp2_with fail
    have hgl1 := (unhide HC0).lt
    refine ((unhide IHS) 4 4 rfl (by decide) (by decide) _ g A n c (unhide HC0) HN.out).mono ?_
    rintro e w1 ⟨B1, cb1, L1, l1, rfl, hL1, hm1, hv1, hO1, hC1, hG1⟩
    have HL1 := Lib.hid hL1
    have HV1 := Lib.hid hv1
    have HI1 := hide (InC.own hO1)
    have HC1 := hide hC1
    have HG1 := hide (only_trans (unhide HG0) hG1)
    clear hL1 hv1 hO1 hC1 hG1
    go_wp2_with fail
    refine (rset_any l1 B1 L1 cb1 _ HL1.out (by omega) (fun x hx => by have := (HV1.out x hx).size (by omega); omega) (unhide HI1)).mono ?_
    rintro e w2 ⟨rfl, hb2⟩
    have HC2 := hide ((unhide HC1).below hb2)
    have HG2 := hide (only_trans (unhide HG1) (only_below hb2 _))
    clear hb2
    go_wp2_with fail
    go_ret
    exact ⟨_, rfl, ok_set (by omega) (by omega) HV1.out (by have := HL1.out; omega), unhide HC2, unhide HG2⟩
  · go_wp2_with fail
    refine (next_st 3 3 rfl (by decide) (by decide) (unhide HC0) HN.out).mono ?_
    rintro e w1 ⟨r1, hr1, rfl, hC1, hG1⟩
    have HC1 := hide hC1
    have HG1 := hide (only_trans (unhide HG0) hG1)
    clear hC1 hG1
    go_wp2_with fail
    have hgl2 := (unhide HC1).lt
    refine ((unhide IHS) 3 3 rfl (by decide) (by decide) _ g A n c (unhide HC1) HN.out).mono ?_
    rintro e w2 ⟨B2, cb2, L2, l2, rfl, hL2, hm2, hv2, hO2, hC2, hG2⟩
    have HL2 := Lib.hid hL2
    have HV2 := Lib.hid hv2
    have HI2 := hide (InC.own hO2)
    have HC2 := hide hC2
    have HG2 := hide (only_trans (unhide HG1) hG2)
    clear hL2 hv2 hO2 hC2 hG2
    go_wp2_with fail
    refine (rdot_any _ l2 B2 L2 cb2 _ HL2.out (by omega) (fun x hx => by have := (HV2.out x hx).size (by omega); omega) (unhide HI2)).mono ?_
    rintro e w3 ⟨rfl, hb3⟩
    have HC3 := hide ((unhide HC2).below hb3)
    have HG3 := hide (only_trans (unhide HG2) (only_below hb3 _))
    clear hb3
    go_wp2_with fail
    go_ret
    exact ⟨_, rfl, ok_dot (by omega) (by omega) HV2.out (by have := HL2.out; omega) (by omega), unhide HC3, unhide HG3⟩
  · go_wp2_with fail
    have hgl1 := (unhide HC0).lt
    refine ((unhide IHS) 3 3 rfl (by decide) (by decide) _ g A n c (unhide HC0) HN.out).mono ?_
    rintro e w1 ⟨B1, cb1, L1, l1, rfl, hL1, hm1, hv1, hO1, hC1, hG1⟩
    have HL1 := Lib.hid hL1
    have HV1 := Lib.hid hv1
    have HI1 := hide (InC.own hO1)
    have HC1 := hide hC1
    have HG1 := hide (only_trans (unhide HG0) hG1)
    clear hL1 hv1 hO1 hC1 hG1
    go_wp2_with fail
    have hgl9 := (unhide HC1).lt
    refine (rsort_any l1 B1 L1 cb1 _ HL1.out (by omega) (fun x hx => by have := (HV1.out x hx).size (by omega); omega) (unhide HI1)).mono ?_
    rintro e w5 ⟨B5, cb5, L5, rfl, hL5, hO5, hb5⟩
    have HO5 := hide hO5
    have hg5 : g < w5.heap.size := by have := hb5.size; omega
    have hl5 : L5 ≤ 2 := by have h1 := sortM_len l1; have h2 := HL1.out; omega
    have HL5 := Lib.hid hL5
    have HC5 := hide ((unhide HC1).below hb5)
    have HG5 := hide (only_trans (unhide HG1) (only_below hb5 _))
    have HVS : Hid (∀ s ∈ sortM l1, ValOK d s) := Lib.hid fun s hs => HV1.out s (sortM_mem.1 hs)
    have HAS : Hid (Asc (sortM l1)) := Lib.hid (sortM_asc l1)
    generalize sortM l1 = so at *
    clear hO5 hb5 hL5 HI1 HC1 HG1
    go_wp2_with fail
    go_loopw [7, 8] (fun vv iv wr => ∃ (i : Nat) (vs : List ByteArray), iv = .int .i64 i ∧ i ≤ L5 ∧ Hid (i = vs.length) ∧ Hid (∀ s ∈ vs, ValOK d s) ∧ Hid (wr.ownsRow w5.heap.size 23 1 vv i (vs.map Value.string)) ∧ Hid (CSt wr g A n c) ∧ Hid (w5.grownBy wr (some g))) (fun _ iv _ => L5 - (intOf iv).toNat)
    case atStart => exact ⟨0, [], rfl, by omega, rfl, fun s h => (by cases h), World.ownsRow_nil _ _ _ _, unhide HC5, only_refl _ _⟩
    case round =>
      obtain ⟨i, vs, rfl, hi, hil, hV, hO, hC, hG⟩ := hrel
      obtain ⟨A3, c3, rfl⟩ := owns_form hO.out
      by_cases hi5 : i < L5
      · go_wp2_with fail
        refine ((unhide IH) wr g A n c hC.out HN.out).mono ?_
        rintro e w3 ⟨s, rfl, hs3, hC3, hG3⟩
        have HS3 := Lib.hid hs3
        have HC3 := hide hC3
        have HO3 := hide (owns_other hO.out hG3 (row_g hO.out hg5))
        have HG3 := hide (only_trans hG.out hG3)
        clear hs3 hC3 hG3 hO hC hG
        have HO4 := hide ((unhide HO3).alloc (.cells #[.string s] 23))
        have hsz := (unhide HG3).size
        go_wp2_with (at_builtin; refine wpList_app _ rfl _ _ 24 rfl w5.heap.size 23 i0 _ 1 16 Tryz.underlying24 hi0 hiz0 hiz1 hiz2 rfl (by decide) _ i (vs.map Value.string) rfl (unhide HO4) (some ⟨w3.heap.size, 0, none⟩) 1 1 [.string s] rfl rfl (new_in w3 23 #[.string s]) (one_str s) (by unfold maxLen; omega) (by omega) (by simp; omega) ?_; intro v6 w6 hown6 hgrow6 _)
        have hall := grow_all (unhide HC3) (unhide HG3) hg5 s (unhide HO3) hgrow6
        have HC6 := hide hall.1
        have HG6 := hide hall.2
        have HO6 : Hid (w6.ownsRow w5.heap.size 23 1 v6 (i + 1) ((vs ++ [s]).map Value.string)) := hide (by rw [List.map_append]; exact hown6)
        have HV6 : Hid (∀ x ∈ vs ++ [s], ValOK d x) := Lib.hid (fun x hx => by
          rcases List.mem_append.1 hx with hx | hx
          · exact hV.out x hx
          · simp at hx; subst hx; exact HS3.out)
        clear hall hown6 hgrow6
        go_wp2_with fail
        go_roundw
        case rel => exact ⟨i + 1, vs ++ [s], by go_num, by omega, by rw [List.length_append, ← hil.out]; rfl, HV6.out, unhide HO6, unhide HC6, unhide HG6⟩
        case measure => simp [intOf]; omega
      · obtain rfl : i = L5 := by omega
        have HIK := hide (InC.own (owns_other (unhide HO5) hG.out (row_g (unhide HO5) hgl9)))
        have HIV := hide (InC.own hO.out)
        have HGE := hide (only_trans (unhide HG5) hG.out)
        have HLE : Hid (so.length = vs.length) := Lib.hid (by rw [← HL5.out, ← hil.out])
        go_wp2_with fail
        refine (rmap_any so vs B5 A3 i i cb5 c3 wr HL5.out hil.out (by omega) (by omega) (fun x hx => by have := (HVS.out x hx).size (by omega); omega) (fun x hx => by have := (hV.out x hx).size (by omega); omega) (unhide HIK) (unhide HIV)).mono ?_
        rintro e w8 ⟨rfl, hb8⟩
        have HC8 := hide (hC.out.below hb8)
        have HG8 := hide (only_trans (unhide HGE) (only_below hb8 _))
        clear hb8
        go_wp2_with fail
        go_ret
        exact ⟨_, rfl, ok_map (by omega) (by omega) HAS.out HLE.out HVS.out hV.out (by rw [← HL5.out]; exact hl5), unhide HC8, unhide HG8⟩
  · go_wp2_with fail
    refine (next_st 3 3 rfl (by decide) (by decide) (unhide HC0) HN.out).mono ?_
    rintro e w1 ⟨r1, hr1, rfl, hC1, hG1⟩
    have HC1 := hide hC1
    have HG1 := hide (only_trans (unhide HG0) hG1)
    clear hC1 hG1
    go_wp2_with fail
    have hgl2 := (unhide HC1).lt
    refine ((unhide IHS) 2 2 rfl (by decide) (by decide) _ g A n c (unhide HC1) HN.out).mono ?_
    rintro e w2 ⟨B2, cb2, L2, l2, rfl, hL2, hm2, hv2, hO2, hC2, hG2⟩
    have HL2 := Lib.hid hL2
    have HV2 := Lib.hid hv2
    have HI2 := hide (InC.own hO2)
    have HC2 := hide hC2
    have HG2 := hide (only_trans (unhide HG1) hG2)
    clear hL2 hv2 hO2 hC2 hG2
    go_wp2_with fail
    refine (rnumbered_any 8 (by decide) _ l2 B2 L2 cb2 _ HL2.out (by omega) (fun x hx => by have := (HV2.out x hx).size (by omega); omega) (unhide HI2)).mono ?_
    rintro e w3 ⟨rfl, hb3⟩
    have HC3 := hide ((unhide HC2).below hb3)
    have HG3 := hide (only_trans (unhide HG2) (only_below hb3 _))
    clear hb3
    go_wp2_with fail
    go_ret
    exact ⟨_, rfl, ok_fun (by omega) (by omega) HV2.out (by have := HL2.out; omega) (by omega), unhide HC3, unhide HG3⟩
theorem value_st : ∀ d, 1 ≤ d → d ≤ 7 → GvCon d
  | 0, h, _ => absurd h (by omega)
  | 1, _, _ => value_one
  | d + 2, _, h => value_up (d + 1) (by omega) (by omega) (value_st (d + 1) (by omega) (by omega))

end Go.Proofs.YtdifpemohdnolaaGreat
