/- Both Inserts agree at every list of tokens: agrees returns true. Conditions: at most two hundred million tokens, strings of at most 2^47 bytes; strconv.ErrRange holds an interface value. What the reference's comment returns, and where it leaves the cursor. What the reference's skip returns, and where it leaves the cursor. -/
import Derived.Test.YtkjjagmpnnnimaaGreatDoorQ29
import Derived.Test.YtkjjagmpnnnimaaGreatDoorQ8
namespace Go.Proofs.YtkjjagmpnnnimaaGreatDoor
open Go.RowKit M

set_option maxRecDepth 100000 in
set_option maxHeartbeats 3200000 in
theorem agrees2_any (w : World) (A : Option Addr) (n c : Nat) (ts : List Tok) (hn : n = ts.length) (hA : InToks w A ts) (hr : RangeVar w) (hm : ts.length ≤ 200000000) (hs : ∀ t ∈ ts, t.1.str.length ≤ 140737488355328) :
    Calls Tryz.prog 8 #[.slice A n c] w fun e w' => e = .returned (.bool true) ∧ Below w.heap.size w w' := by
  have HR := Lib.hid hr
  have HA := Lib.hid hA
  have H1 := Lib.hid (fun W h1 h2 => insert_all W A n c ts hn h1 h2 hm hs)
  have H2 := Lib.hid (fun W h1 => rinsert_all W A n c ts hn h1 hm hs)
  have hlen := insL_len ts
  generalize insL ts = R at *
  obtain ⟨out, ⟨a, b⟩, er⟩ := R
  simp only at hlen
  have hlen : out.length ≤ 900000000 := by omega
  clear hr hA hs hm hn
  go_enter Tryz.func8, Tryz.ntmps8
  go_wp2_with fail
  refine (H1.out _ HA.out HR.out).mono ?_
  rintro e w1 ⟨v1, rfl, ho1, hb1⟩
  simp only at ho1
  obtain ⟨A1, c1, rfl⟩ := owns_form ho1
  have HO1 := Lib.hid ho1
  have HB1 := Lib.hid hb1
  have HA1 := Lib.hid (HA.out.below hb1)
  have hs1 := hb1.size
  clear ho1 hb1
  go_wp2_with fail
  refine (H2.out _ (HA1.out.alloc _)).mono ?_
  rintro e w2 ⟨v2, rfl, ho2, hb2⟩
  simp only at ho2
  obtain ⟨A2, c2, rfl⟩ := owns_form ho2
  obtain ⟨hc2, hf2⟩ := bcell_alloc hb2
  have hz2 : w1.heap.size + 1 ≤ w2.heap.size := by have := hb2.size; simp at this; omega
  have HE := Lib.hid (fun o : Obj => equal_toks out out.length rfl (by omega) A1 A2 c1 c2 (w2.alloc o) (InToks.own (((owns_below (owns_alloc_n HO1.out _) hb2)).alloc o) rfl) (InToks.own (ho2.alloc o) rfl))
  have HB2 := Lib.hid hb2
  clear hb2 ho2
  go_wp2_with fail
  refine (HE.out _).mono ?_
  rintro e w3 ⟨rfl, m, rfl⟩
  go_wp2
  go_ret
  exact ⟨rfl, below_drewN' (((HB1.out.alloc hs1 _).trans (HB2.out.mono (by simp; omega))).alloc (by omega) _) _⟩

end Go.Proofs.YtkjjagmpnnnimaaGreatDoor

namespace Go.Proofs.YtkjjagmpnnnimaaGreatDoor
open Go.RowKit M

/-- the position k bytes behind index i -/
def posR (p : Int × Int) (s : ByteArray) (i k : Nat) : Int × Int := posA p ((rest s i).take k)
theorem posR_zero (p : Int × Int) (s : ByteArray) (i : Nat) : posR p s i 0 = p := rfl
theorem posR_next (p : Int × Int) (s : ByteArray) (i k : Nat) (h : i + k < s.size) : posR p s i (k + 1) = stepP (posR p s i k) s[i + k] := by
  unfold posR
  have hl : k < (rest s i).length := by rw [rest_length]; omega
  have e : (rest s i)[k] = s[i + k] := by
    have h1 := rest_cons s (i + k) h
    rw [← rest_drop s i k, List.drop_eq_getElem_cons hl] at h1
    injection h1
  rw [List.take_succ_eq_append_getElem hl, posA_append, e]; rfl
theorem posR_bound (p : Int × Int) (s : ByteArray) (i k : Nat) (h1 : 0 ≤ p.1) (h2 : p.1 ≤ 300000) (h3 : 0 ≤ p.2) (h4 : p.2 ≤ 300000) (hk : k ≤ 65536) :
    0 ≤ (posR p s i k).1 ∧ (posR p s i k).1 ≤ 1000000 ∧ 0 ≤ (posR p s i k).2 ∧ (posR p s i k).2 ≤ 1000000 := by
  have := posA_bound ((rest s i).take k) p h1 h3
  have hl : ((rest s i).take k).length ≤ k := List.length_take_le _ _
  unfold posR
  omega
theorem posR_add (p : Int × Int) (s : ByteArray) (i a b : Nat) : posR (posR p s i a) s (i + a) b = posR p s i (a + b) := by
  unfold posR
  rw [← posA_append, ← rest_drop, List.take_add]

/-- how many bytes are left behind the cursor's index -/
def remR (w : World) (g : Nat) (s : ByteArray) : Nat := match w.cell? ⟨g, 1, none⟩ with
  | some (.int _ n) => s.size - n.toNat
  | _ => 0
theorem remR_is {w : World} {g : Nat} {s : ByteArray} {i : Nat} {p : Int × Int} (h : RCur w g s i p) : remR w g s = s.size - i := by
  unfold remR; rw [h.c1]; simp

def ComPost (w : World) (g : Nat) (s : ByteArray) (i : Nat) (p : Int × Int) (r : Option Nat) (e : Ending) (w' : World) : Prop :=
  match r with
  | some n => e = .returned (.bool true) ∧ RCur w' g s (i + n) (posR p s i n) ∧ w.grownBy w' (some g)
  | none => e = .returned (.bool false) ∧ (∃ i' p', RCur w' g s i' p') ∧ w.grownBy w' (some g)

def ComRel (w : World) (g : Nat) (s : ByteArray) (i : Nat) (p : Int × Int) (R : Option Nat) (d : Int) (k f : Nat) (wr : World) : Prop :=
  R = comF f d (rest s (i + k)) k ∧ RCur wr g s (i + k) (posR p s i k) ∧ w.grownBy wr (some g)

set_option maxHeartbeats 2000000 in
theorem rcomment_any (w : World) (g : Nat) (s : ByteArray) (i : Nat) (p : Int × Int) (hc : RCur w g s i p) (hm : s.size ≤ 65536) (hi : i ≤ s.size)
    (h1 : 0 ≤ p.1) (h2 : p.1 ≤ 300000) (h3 : 0 ≤ p.2) (h4 : p.2 ≤ 300000) :
    Calls Tryz.prog 27 #[.pointer (some ⟨g, 0, none⟩)] w (ComPost w g s i p (comN (rest s i))) := by
  have hR : Hid (ComRel w g s i p (comN (rest s i)) 0 0 (s.size - i + 1) w) := by
    refine ⟨?_, hc, only_refl _ _⟩
    unfold comN; rw [rest_length]; rfl
  clear hc
  generalize comN (rest s i) = R at *
  go_enter Tryz.func27, Tryz.ntmps27
  go_wp2
  go_loopw [3] (fun t wr => ∃ (d : Int) (k f : Nat), -(k : Int) ≤ d ∧ d ≤ k ∧ i + k ≤ s.size ∧ s.size + 1 ≤ f + i + k ∧ t = .int .i64 d ∧ Hid (ComRel w g s i p R d k f wr)) (fun _ wr => remR wr g s)
  case atStart => exact ⟨0, 0, s.size - i + 1, by omega, by omega, by omega, by omega, rfl, hR⟩
  case round =>
    clear hR
    obtain ⟨d, k, f, hd1, hd2, hk, hf, rfl, hRel⟩ := hrel
    obtain ⟨f, rfl⟩ : ∃ x, f = x + 1 := ⟨f - 1, by omega⟩
    obtain ⟨hR, hC, hG⟩ := hRel.out
    clear hRel
    have hs := comF_step f d (rest s (i + k)) k
    have e2 := rest_drop s (i + k) 2
    have e1 := rest_drop s (i + k) 1
    have d0 := hC.c0
    have d1 := hC.c1
    have hrem : Hid (remR wr g s = s.size - (i + k)) := remR_is hC
    have b0 : (0 : Int) ≤ (i : Int) + (k : Int) := by omega
    by_cases hlt : i + k < s.size
    · have hne : rest s (i + k) ≠ [] := by rw [rest_cons s (i + k) hlt]; simp
      rw [if_neg hne] at hs
      have g1 : (i : Int) + (k : Int) < (s.size : Int) := by omega
      have HAT := fun (W : World) (hW : RCur W g s (i + k) (posR p s i k)) (a b : UInt8) r hr => rat_any W g s (i + k) _ hW hm (by omega) a b r hr
      have HAT := Lib.hid HAT
      have HST := Lib.hid (fun (W : World) (j : Nat) (hW : RCur W g s (i + j) (posR p s i j)) (hj : i + j < s.size) => by
        have hb := posR_bound p s i j h1 h2 h3 h4 (by omega)
        have := rstep_any W g s (i + j) _ hW hm hj hb.1 hb.2.1 hb.2.2.1 hb.2.2.2
        rw [← posR_next p s i j hj] at this
        exact this)
      have HRR := Lib.hid hR
      have HC := Lib.hid hC
      have HG := Lib.hid hG
      clear hR hC hG hne
      go_wp2
      go_quiet (fail)
      clear d0 d1
      cases hp1 : [123, 45].isPrefixOf (rest s (i + k))
      · rw [hp1, if_neg (by decide)] at hs
        have HP1 := Lib.hid hp1
        cases hp2 : [45, 125].isPrefixOf (rest s (i + k))
        · rw [hp2, if_neg (by decide), e1] at hs
          have HP2 := Lib.hid hp2
          clear hp1 hp2 e1 e2
          by_cases hd : d = 0
          · -- other, zero
            rw [if_pos hd] at hs
            have g0 : (d == 0) = true := beq_iff_eq.2 hd
            have HS := Lib.hid hs
            clear hs hd
            go_wp2_with fail
            refine (HAT.out _ (HC.out.drewN _) 123 45 false HP1.out).mono ?_
            rintro e w1 ⟨rfl, hC1, hG1⟩
            go_wp2_with fail
            refine (HAT.out _ hC1 45 125 false HP2.out).mono ?_
            rintro e w2 ⟨rfl, hC2, hG2⟩
            go_wp2_with fail
            refine (HST.out _ k hC2 (by omega)).mono ?_
            rintro e w3 ⟨rfl, hC3, hG3⟩
            have hfin : ComPost w g s i p (some (k + 1)) (.returned (.bool true)) w3 := ⟨rfl, hC3, only_trans (only_trans (only_trans (only_drewN HG.out _) hG1) hG2) hG3⟩
            have HF := Lib.hid hfin
            have HZ : Hid (R = some (k + 1)) := HRR.out.trans HS.out
            clear hfin hC1 hG1 hC2 hG2 hC3 hG3
            go_wp2
            go_ret
            rw [HZ.out]
            exact HF.out
          · -- other
            rw [if_neg hd] at hs
            have g0 : (d == 0) = false := beq_eq_false_iff_ne.2 hd
            have HS := Lib.hid hs
            clear hs hd
            go_wp2_with fail
            refine (HAT.out _ (HC.out.drewN _) 123 45 false HP1.out).mono ?_
            rintro e w1 ⟨rfl, hC1, hG1⟩
            go_wp2_with fail
            refine (HAT.out _ hC1 45 125 false HP2.out).mono ?_
            rintro e w2 ⟨rfl, hC2, hG2⟩
            go_wp2_with fail
            refine (HST.out _ k hC2 (by omega)).mono ?_
            rintro e w3 ⟨rfl, hC3, hG3⟩
            have HR3 : Hid (ComRel w g s i p R (d) (k + 1) f w3) := ⟨HRR.out.trans HS.out, hC3, only_trans (only_trans (only_trans (only_drewN HG.out _) hG1) hG2) hG3⟩
            have hm3 : remR w3 g s = s.size - (i + (k + 1)) := remR_is hC3
            have HM3 := Lib.hid hm3
            clear hm3 hC1 hG1 hC2 hG2 hC3 hG3
            go_wp2
            go_roundw
            case rel => exact ⟨d, k + 1, f, by omega, by omega, by omega, by omega, rfl, HR3⟩
            case measure => rw [hrem.out, HM3.out]; omega
        · rw [hp2, if_pos rfl, e2] at hs
          have hle := prefix2_le s (i + k) _ _ hp2
          have HP2 := Lib.hid hp2
          clear hp1 hp2 e1 e2
          by_cases hd : d - 1 = 0
          · -- shut, zero
            rw [if_pos hd] at hs
            obtain rfl : d = 1 := by omega
            have HS := Lib.hid hs
            clear hs hd
            go_wp2_with fail
            refine (HAT.out _ (HC.out.drewN _) 123 45 false HP1.out).mono ?_
            rintro e w1 ⟨rfl, hC1, hG1⟩
            go_wp2_with fail
            refine (HAT.out _ hC1 45 125 true HP2.out).mono ?_
            rintro e w2 ⟨rfl, hC2, hG2⟩
            go_wp2_with fail
            refine (HST.out _ k hC2 (by omega)).mono ?_
            rintro e w3 ⟨rfl, hC3, hG3⟩
            go_wp2_with fail
            refine (HST.out _ (k + 1) hC3 (by omega)).mono ?_
            rintro e w4 ⟨rfl, hC4, hG4⟩
            have hfin : ComPost w g s i p (some (k + 2)) (.returned (.bool true)) w4 := ⟨rfl, hC4, only_trans (only_trans (only_trans (only_trans (only_drewN HG.out _) hG1) hG2) hG3) hG4⟩
            have HF := Lib.hid hfin
            have HZ : Hid (R = some (k + 2)) := HRR.out.trans HS.out
            clear hfin hC1 hG1 hC2 hG2 hC3 hG3 hC4 hG4
            go_wp2
            go_ret
            rw [HZ.out]
            exact HF.out
          · -- shut
            rw [if_neg hd] at hs
            have g0 : (d - 1 == 0) = false := beq_eq_false_iff_ne.2 hd
            have HS := Lib.hid hs
            clear hs hd
            go_wp2_with fail
            refine (HAT.out _ (HC.out.drewN _) 123 45 false HP1.out).mono ?_
            rintro e w1 ⟨rfl, hC1, hG1⟩
            go_wp2_with fail
            refine (HAT.out _ hC1 45 125 true HP2.out).mono ?_
            rintro e w2 ⟨rfl, hC2, hG2⟩
            go_wp2_with fail
            refine (HST.out _ k hC2 (by omega)).mono ?_
            rintro e w3 ⟨rfl, hC3, hG3⟩
            go_wp2_with fail
            refine (HST.out _ (k + 1) hC3 (by omega)).mono ?_
            rintro e w4 ⟨rfl, hC4, hG4⟩
            have HR3 : Hid (ComRel w g s i p R (d - 1) (k + 2) f w4) := ⟨HRR.out.trans HS.out, hC4, only_trans (only_trans (only_trans (only_trans (only_drewN HG.out _) hG1) hG2) hG3) hG4⟩
            have hm3 : remR w4 g s = s.size - (i + (k + 2)) := remR_is hC4
            have HM3 := Lib.hid hm3
            clear hm3 hC1 hG1 hC2 hG2 hC3 hG3 hC4 hG4
            go_wp2
            go_roundw
            case rel => exact ⟨d - 1, k + 2, f, by omega, by omega, by omega, by omega, rfl, HR3⟩
            case measure => rw [hrem.out, HM3.out]; omega
      · rw [hp1, if_pos rfl, e2] at hs
        have hle := prefix2_le s (i + k) _ _ hp1
        have HP1 := Lib.hid hp1
        clear hp1 e1 e2
        by_cases hd : d + 1 = 0
        · -- open, zero
          rw [if_pos hd] at hs
          have g0 : (d + 1 == 0) = true := beq_iff_eq.2 hd
          have HS := Lib.hid hs
          clear hs hd
          go_wp2_with fail
          refine (HAT.out _ (HC.out.drewN _) 123 45 true HP1.out).mono ?_
          rintro e w1 ⟨rfl, hC1, hG1⟩
          go_wp2_with fail
          refine (HST.out _ k hC1 (by omega)).mono ?_
          rintro e w2 ⟨rfl, hC2, hG2⟩
          go_wp2_with fail
          refine (HST.out _ (k + 1) hC2 (by omega)).mono ?_
          rintro e w3 ⟨rfl, hC3, hG3⟩
          have hfin : ComPost w g s i p (some (k + 2)) (.returned (.bool true)) w3 := ⟨rfl, hC3, only_trans (only_trans (only_trans (only_drewN HG.out _) hG1) hG2) hG3⟩
          have HF := Lib.hid hfin
          have HZ : Hid (R = some (k + 2)) := HRR.out.trans HS.out
          clear hfin hC1 hG1 hC2 hG2 hC3 hG3
          go_wp2
          go_ret
          rw [HZ.out]
          exact HF.out
        · -- open
          rw [if_neg hd] at hs
          have g0 : (d + 1 == 0) = false := beq_eq_false_iff_ne.2 hd
          have HS := Lib.hid hs
          clear hs hd
          go_wp2_with fail
          refine (HAT.out _ (HC.out.drewN _) 123 45 true HP1.out).mono ?_
          rintro e w1 ⟨rfl, hC1, hG1⟩
          go_wp2_with fail
          refine (HST.out _ k hC1 (by omega)).mono ?_
          rintro e w2 ⟨rfl, hC2, hG2⟩
          go_wp2_with fail
          refine (HST.out _ (k + 1) hC2 (by omega)).mono ?_
          rintro e w3 ⟨rfl, hC3, hG3⟩
          have HR3 : Hid (ComRel w g s i p R (d + 1) (k + 2) f w3) := ⟨HRR.out.trans HS.out, hC3, only_trans (only_trans (only_trans (only_drewN HG.out _) hG1) hG2) hG3⟩
          have hm3 : remR w3 g s = s.size - (i + (k + 2)) := remR_is hC3
          have HM3 := Lib.hid hm3
          clear hm3 hC1 hG1 hC2 hG2 hC3 hG3
          go_wp2
          go_roundw
          case rel => exact ⟨d + 1, k + 2, f, by omega, by omega, by omega, by omega, rfl, HR3⟩
          case measure => rw [hrem.out, HM3.out]; omega
    · have he : rest s (i + k) = [] := rest_end s (i + k) (by omega)
      rw [if_pos he] at hs
      have hz : Hid (R = none) := hR.trans hs
      have g1 : (s.size : Int) ≤ (i : Int) + (k : Int) := by omega
      have HC := Lib.hid hC
      have HG := Lib.hid hG
      clear hs hR he hC hG e1 e2
      go_wp2
      go_quiet (fail)
      go_wp2
      go_ret
      rw [hz.out]
      exact ⟨rfl, ⟨_, _, HC.out.drewN _⟩, only_drewN HG.out _⟩

end Go.Proofs.YtkjjagmpnnnimaaGreatDoor

namespace Go.Proofs.YtkjjagmpnnnimaaGreatDoor
open Go.RowKit M

theorem comN_bound (s : ByteArray) (i n : Nat) (h : comN (rest s i) = some n) (hp : [123, 45].isPrefixOf (rest s i) = true) : n ≤ s.size - i ∧ 2 ≤ n := by
  have hle := comF_le _ _ _ _ _ h
  rw [rest_length] at hle
  refine ⟨by omega, ?_⟩
  have hl := prefix2_le s i _ _ hp
  unfold comN at h
  rw [comF_step, if_neg (by intro e; have := congrArg List.length e; rw [rest_length] at this; simp at this; omega), if_pos hp, if_neg (by decide)] at h
  have := comF_le _ _ _ _ _ h
  omega
theorem RCur.all {w : World} {g : Nat} {s s' : ByteArray} {i i' : Nat} {p p' : Int × Int} (h : RCur w g s i p) {z : Int} (hz : z = i') :
    RCur ((((w.setCell ⟨g, 0, none⟩ (.string s')).setCell ⟨g, 1, none⟩ (.int .i64 z)).setCell ⟨g, 2, none⟩ (.int .i64 p'.1)).setCell ⟨g, 3, none⟩ (.int .i64 p'.2)) g s' i' p' := by
  subst hz
  have h0 : RCur (w.setCell ⟨g, 0, none⟩ (.string s')) g s' i p := by
    unfold RCur at h ⊢
    simp [World.setCell, Array.getElem?_modify, h]
  exact ((h0.set1 i').set2 p'.1).set3 p'.2
theorem RCur.alloc {w : World} {g : Nat} {s : ByteArray} {i : Nat} {p : Int × Int} (h : RCur w g s i p) (o : Obj) : RCur (w.alloc o) g s i p := (Below.heap_alloc _ _ _ h.lt).trans h
theorem only_alloc {a w : World} {row : Option Nat} (h : a.grownBy w row) (o : Obj) : a.grownBy (w.alloc o) row :=
  ⟨h.os, h.tape, h.output, Nat.le_trans h.size (by simp), fun i hi hne => (Below.heap_alloc w o i (Nat.lt_of_lt_of_le hi h.size)).trans (h.block i hi hne)⟩

def RSkPost (w : World) (g : Nat) (s : ByteArray) (i : Nat) (p : Int × Int) (r : Nat × Bool) (e : Ending) (w' : World) : Prop :=
  e = .returned (.bool r.2) ∧ RCur w' g s (i + r.1) (posR p s i r.1) ∧ w.grownBy w' (some g)
def RSkRel (w : World) (g : Nat) (s : ByteArray) (i : Nat) (p : Int × Int) (R : Nat × Bool) (k f : Nat) (wr : World) : Prop :=
  R = skF f (rest s (i + k)) k ∧ RCur wr g s (i + k) (posR p s i k) ∧ w.grownBy wr (some g)

theorem lineN_step (s : ByteArray) (j : Nat) (h : j < s.size) : lineN (rest s j) = if s[j].toNat = 10 then 0 else 1 + lineN (rest s (j + 1)) := by
  rw [rest_cons s j h]
  unfold lineN
  rw [List.takeWhile_cons]
  have e : (s[j] != 10) = !decide (s[j].toNat = 10) := by
    have := eq_of_toNat s[j] 10 (by decide)
    by_cases hc : s[j].toNat = 10
    · rw [decide_eq_true hc]; have := this.2 hc; rw [this]; rfl
    · rw [decide_eq_false hc]
      have hn : s[j] ≠ 10 := fun e => hc (this.1 e)
      simp [hn]
  rw [e]
  by_cases hc : s[j].toNat = 10
  · rw [if_pos hc, decide_eq_true hc]; rfl
  · rw [if_neg hc, decide_eq_false hc]; simp; omega

theorem gap_spec (s : ByteArray) (j : Nat) (h : j < s.size) : gapR (rest s j) = if s[j].toNat = 32 ∨ s[j].toNat = 9 ∨ s[j].toNat = 13 ∨ s[j].toNat = 10 then (1, true)
    else if [45, 45].isPrefixOf (rest s j) then (lineN (rest s j), true)
    else if [123, 45].isPrefixOf (rest s j) then comR (rest s j)
    else (0, true) := by
  have hr := rest_cons s j h
  have h45 : [45, 45].isPrefixOf (rest s j) = true → s[j].toNat = 45 := by
    rw [hr]; intro hp
    simp only [List.isPrefixOf, Bool.and_eq_true, beq_iff_eq] at hp
    rw [← hp.1]; rfl
  have h123 : [123, 45].isPrefixOf (rest s j) = true → s[j].toNat = 123 := by
    rw [hr]; intro hp
    simp only [List.isPrefixOf, Bool.and_eq_true, beq_iff_eq] at hp
    rw [← hp.1]; rfl
  have he : gapR (rest s j) = if s[j].toNat = 32 ∨ s[j].toNat = 9 ∨ s[j].toNat = 13 ∨ s[j].toNat = 10 then (1, true)
    else if s[j].toNat = 45 ∧ [45, 45].isPrefixOf (rest s j) then (lineN (rest s j), true)
    else if s[j].toNat = 123 ∧ [123, 45].isPrefixOf (rest s j) then comR (rest s j)
    else (0, true) := by
    rw [hr]; rfl
  rw [he]
  by_cases a : s[j].toNat = 32 ∨ s[j].toNat = 9 ∨ s[j].toNat = 13 ∨ s[j].toNat = 10
  · rw [if_pos a, if_pos a]
  rw [if_neg a, if_neg a]
  by_cases b : [45, 45].isPrefixOf (rest s j) = true
  · rw [if_pos ⟨h45 b, b⟩, if_pos b]
  rw [if_neg (fun k => b k.2), if_neg b]
  by_cases c : [123, 45].isPrefixOf (rest s j) = true
  · rw [if_pos ⟨h123 c, c⟩, if_pos c]
  rw [if_neg (fun k => c k.2), if_neg c]

theorem lineN_pos (s : ByteArray) (j : Nat) (h : [45, 45].isPrefixOf (rest s j) = true) : 0 < lineN (rest s j) := by
  have hle := prefix2_le s j _ _ h
  have hr := rest_cons s j (by omega)
  rw [lineN_step s j (by omega)]
  have h45 : s[j].toNat = 45 := by
    rw [hr] at h
    simp only [List.isPrefixOf, Bool.and_eq_true, beq_iff_eq] at h
    rw [← h.1]; rfl
  rw [if_neg (by omega)]; omega

set_option maxRecDepth 100000 in
set_option maxHeartbeats 4000000 in
theorem rskip_any (w : World) (g : Nat) (s : ByteArray) (i : Nat) (p : Int × Int) (hc : RCur w g s i p) (hm : s.size ≤ 65536) (hi : i ≤ s.size)
    (h1 : 0 ≤ p.1) (h2 : p.1 ≤ 200000) (h3 : 0 ≤ p.2) (h4 : p.2 ≤ 200000) :
    Calls Tryz.prog 9 #[.pointer (some ⟨g, 0, none⟩)] w (RSkPost w g s i p (sk (rest s i))) := by
  have hR : Hid (RSkRel w g s i p (sk (rest s i)) 0 (s.size - i + 1) w) := by
    refine ⟨?_, hc, only_refl _ _⟩
    unfold sk; rw [rest_length]; rfl
  clear hc
  generalize sk (rest s i) = R at *
  go_enter Tryz.func9, Tryz.ntmps9
  go_wp2
  go_loopw [3] (fun _ wr => ∃ (k f : Nat), i + k ≤ s.size ∧ s.size + 1 ≤ f + i + k ∧ Hid (RSkRel w g s i p R k f wr)) (fun _ wr => remR wr g s)
  case atStart => exact ⟨0, s.size - i + 1, by omega, by omega, hR⟩
  case round =>
    clear hR
    obtain ⟨k, f, hk, hf, hRel⟩ := hrel
    obtain ⟨f, rfl⟩ : ∃ x, f = x + 1 := ⟨f - 1, by omega⟩
    obtain ⟨hR, hC, hG⟩ := hRel.out
    clear hRel
    have hs := skF_step f (rest s (i + k)) k
    have d0 := hC.c0
    have d1 := hC.c1
    have hrem : Hid (remR wr g s = s.size - (i + k)) := remR_is hC
    have b0 : (0 : Int) ≤ (i : Int) + (k : Int) := by omega
    by_cases hlt : i + k < s.size
    · have hgs := gap_spec s (i + k) hlt
      have g1 : (i : Int) + (k : Int) < (s.size : Int) := by omega
      have HAT := Lib.hid (fun (W : World) (hW : RCur W g s (i + k) (posR p s i k)) (a b : UInt8) r hr => rat_any W g s (i + k) _ hW hm (by omega) a b r hr)
      have HST := Lib.hid (fun (W : World) (j : Nat) (hW : RCur W g s (i + j) (posR p s i j)) (hj : i + j < s.size) => by
        have hb := posR_bound p s i j h1 (by omega) h3 (by omega) (by omega)
        have := rstep_any W g s (i + j) _ hW hm hj hb.1 hb.2.1 hb.2.2.1 hb.2.2.2
        rw [← posR_next p s i j hj] at this
        exact this)
      have HRR := Lib.hid hR
      have HC := Lib.hid hC
      have HG := Lib.hid hG
      clear hR hC hG
      by_cases hw : s[i + k].toNat = 32 ∨ s[i + k].toNat = 9 ∨ s[i + k].toNat = 13 ∨ s[i + k].toNat = 10
      · rw [if_pos hw] at hgs
        rw [hgs, if_neg (by simp), rest_drop] at hs
        have HS := Lib.hid hs
        clear hgs hs
        rcases hw with hw | hw | hw | hw
        all_goals
          have hv := cast_to _ _ hw
          clear hw
          go_wp2
          go_quiet (fail)
          go_wp2
          go_quiet (fail)
          clear d0 d1
          go_wp2_with fail
          refine (HST.out _ k (HC.out.drewN _) hlt).mono ?_
          rintro e w1 ⟨rfl, hC1, hG1⟩
          have HR1 : Hid (RSkRel w g s i p R (k + 1) f w1) := ⟨HRR.out.trans HS.out, hC1, only_trans (only_drewN HG.out _) hG1⟩
          have HM1 : Hid (remR w1 g s = s.size - (i + (k + 1))) := remR_is hC1
          clear hC1 hG1
          go_wp2
          go_roundw
          case rel => exact ⟨k + 1, f, by omega, by omega, HR1⟩
          case measure => rw [hrem.out, HM1.out]; omega
      · rw [if_neg hw] at hgs
        have q1 : ((s[i + k].toNat : Int) == 32) = false := beq_eq_false_iff_ne.2 (by omega)
        have q2 : ((s[i + k].toNat : Int) == 9) = false := beq_eq_false_iff_ne.2 (by omega)
        have q3 : ((s[i + k].toNat : Int) == 13) = false := beq_eq_false_iff_ne.2 (by omega)
        have q4 : ((s[i + k].toNat : Int) == 10) = false := beq_eq_false_iff_ne.2 (by omega)
        clear hw
        go_wp2
        go_quiet (fail)
        go_wp2
        go_quiet (fail)
        clear d0 d1
        cases hp1 : [45, 45].isPrefixOf (rest s (i + k))
        · rw [hp1, if_neg (by decide)] at hgs
          have HP1 := Lib.hid hp1
          clear hp1
          cases hp2 : [123, 45].isPrefixOf (rest s (i + k))
          · rw [hp2, if_neg (by decide)] at hgs
            rw [hgs, if_pos (.inr rfl)] at hs
            have HS := Lib.hid hs
            have HP2 := Lib.hid hp2
            clear hgs hs hp2
            go_wp2_with fail
            refine (HAT.out _ (HC.out.drewN _) 45 45 false HP1.out).mono ?_
            rintro e w1 ⟨rfl, hC1, hG1⟩
            go_wp2_with fail
            refine (HAT.out _ hC1 123 45 false HP2.out).mono ?_
            rintro e w2 ⟨rfl, hC2, hG2⟩
            have HF : Hid (RSkPost w g s i p (k, true) (.returned (.bool true)) w2) := ⟨rfl, hC2, only_trans (only_trans (only_drewN HG.out _) hG1) hG2⟩
            have HZ : Hid (R = (k, true)) := HRR.out.trans HS.out
            clear hC1 hG1 hC2 hG2
            go_wp2
            go_ret
            rw [HZ.out]
            exact HF.out
          · rw [hp2, if_pos rfl] at hgs
            have HP2 := Lib.hid hp2
            rw [hgs] at hs
            have hpb := posR_bound p s i k h1 (by omega) h3 (by omega) (by omega)
            have hpt : (posR p s i k).1 ≤ 300000 ∧ (posR p s i k).2 ≤ 300000 := by
              have hb := posA_bound ((rest s i).take k) p h1 h3
              have hl : ((rest s i).take k).length ≤ k := List.length_take_le _ _
              unfold posR; omega
            have HCM := Lib.hid (fun (W : World) (hW : RCur W g s (i + k) (posR p s i k)) => rcomment_any W g s (i + k) (posR p s i k) hW hm (by omega) hpb.1 hpt.1 hpb.2.2.1 hpt.2)
            have HCR := Lib.hid (fun n hn => comN_bound s (i + k) n hn HP2.out)
            unfold comR at hs
            clear hp2 hgs hpb hpt
            cases hcn : comN (rest s (i + k))
            · rw [hcn] at hs HCM
              rw [if_pos (.inl rfl)] at hs
              have HS := Lib.hid hs
              clear hs hcn HCR
              go_wp2_with fail
              refine (HAT.out _ (HC.out.drewN _) 45 45 false HP1.out).mono ?_
              rintro e w1 ⟨rfl, hC1, hG1⟩
              go_wp2_with fail
              refine (HAT.out _ hC1 123 45 true HP2.out).mono ?_
              rintro e w2 ⟨rfl, hC2, hG2⟩
              have HG2 : Hid (w.grownBy w2 (some g)) := only_trans (only_trans (only_drewN HG.out _) hG1) hG2
              have HC2 := Lib.hid hC2
              have c0 := hC2.c0
              have c1 := hC2.c1
              have c2 := hC2.c2
              have c3 := hC2.c3
              clear hC1 hG1 hC2 hG2
              obtain ⟨q, hq⟩ : ∃ q, posR p s i k = q := ⟨_, rfl⟩
              rw [hq] at HC2 HCM c2 c3
              have HPQ := Lib.hid hq
              clear hq
              obtain ⟨a, b⟩ := q
              simp only at c2 c3
              go_wp2_with fail
              refine (HCM.out _ (HC2.out.alloc _)).mono ?_
              rintro e w3 ⟨rfl, ⟨i', p', hC3⟩, hG3⟩
              have hwas := (hG3.block w2.heap.size (by simp) (by have := HC2.out.lt; intro e; injection e; omega)).trans (heap_alloc_new w2 _)
              have y0 := cell_of_row w3 _ 0 _ _ _ hwas
              have y1 := cell_of_row w3 _ 1 _ _ _ hwas
              have y2 := cell_of_row w3 _ 2 _ _ _ hwas
              have y3 := cell_of_row w3 _ 3 _ _ _ hwas
              simp at y0 y1 y2 y3
              have z0 := hC3.c0
              have z1 := hC3.c1
              have z2 := hC3.c2
              have z3 := hC3.c3
              have zf := hC3.f
              have HC3 := Lib.hid hC3
              have HG3 : Hid (w.grownBy w3 (some g)) := only_trans (only_alloc HG2.out _) hG3
              have HZ : Hid (R = (k, false)) := HRR.out.trans HS.out
              clear hC3 hG3 hwas c0 c1 c2 c3
              go_wp2
              go_ret
              rw [HZ.out]
              refine ⟨rfl, ?_, only_set (only_set (only_set (only_set HG3.out _ _) _ _) _ _) _ _⟩
              have HP := HPQ.out
              rw [HP]
              exact RCur.all (p' := (a, b)) HC3.out (by omega)
            · rename_i n
              rw [hcn] at hs HCM
              obtain ⟨hn1, hn2⟩ := HCR.out n hcn
              rw [if_neg (by simp; omega), rest_drop, Nat.add_assoc] at hs
              have HS := Lib.hid hs
              clear hs hcn HCR
              go_wp2_with fail
              refine (HAT.out _ (HC.out.drewN _) 45 45 false HP1.out).mono ?_
              rintro e w1 ⟨rfl, hC1, hG1⟩
              go_wp2_with fail
              refine (HAT.out _ hC1 123 45 true HP2.out).mono ?_
              rintro e w2 ⟨rfl, hC2, hG2⟩
              have HG2 : Hid (w.grownBy w2 (some g)) := only_trans (only_trans (only_drewN HG.out _) hG1) hG2
              have HC2 := Lib.hid hC2
              have c0 := hC2.c0
              have c1 := hC2.c1
              have c2 := hC2.c2
              have c3 := hC2.c3
              clear hC1 hG1 hC2 hG2
              have HPA := Lib.hid (posR_add p s i k n)
              go_wp2_with fail
              refine (HCM.out _ (HC2.out.alloc _)).mono ?_
              rintro e w3 ⟨rfl, hC3, hG3⟩
              rw [HPA.out, Nat.add_assoc] at hC3
              have HR3 : Hid (RSkRel w g s i p R (k + n) f w3) := ⟨HRR.out.trans HS.out, hC3, only_trans (only_alloc HG2.out _) hG3⟩
              have HM3 : Hid (remR w3 g s = s.size - (i + (k + n))) := remR_is hC3
              clear hC3 hG3 c0 c1 c2 c3
              go_wp2
              go_roundw
              case rel => exact ⟨k + n, f, by omega, by omega, HR3⟩
              case measure => rw [hrem.out, HM3.out]; omega
        · rw [hp1, if_pos rfl] at hgs
          have hlp := lineN_pos s (i + k) hp1
          have hll := lineN_le (rest s (i + k))
          rw [rest_length] at hll
          rw [hgs, if_neg (by simp; omega), rest_drop, Nat.add_assoc] at hs
          obtain ⟨L, hLe⟩ : ∃ L, L = lineN (rest s (i + k)) := ⟨_, rfl⟩
          rw [← hLe] at hs hlp hll
          have HL : Hid (L = 0 + lineN (rest s (i + (k + 0)))) := by unfold Hid; rw [Nat.zero_add]; exact hLe
          have HS := Lib.hid hs
          have HP1 := Lib.hid hp1
          clear hgs hs hp1 hLe
          go_wp2_with fail
          refine (HAT.out _ (HC.out.drewN _) 45 45 true HP1.out).mono ?_
          rintro e w1 ⟨rfl, hC1, hG1⟩
          have HC1 := Lib.hid hC1
          have HG1 : Hid (w.grownBy w1 (some g)) := only_trans (only_drewN HG.out _) hG1
          clear hC1 hG1
          obtain ⟨wo, rfl⟩ : ∃ wo : World, wo = w1 := ⟨_, rfl⟩
          go_wp2
          go_loopw [44] (fun _ wi => ∃ j : Nat, j ≤ L ∧ Hid (L = j + lineN (rest s (i + (k + j))) ∧ RCur wi g s (i + (k + j)) (posR p s i (k + j)) ∧ w.grownBy wi (some g))) (fun _ wi => remR wi g s)
          case atStart => exact ⟨0, by omega, HL.out, HC1.out, HG1.out⟩
          case round =>
            obtain ⟨j, hj, hJ⟩ := hrel
            obtain ⟨hL, hC2, hG2⟩ := hJ.out
            have d0 := hC2.c0
            have d1 := hC2.c1
            have b0 : (0 : Int) ≤ (i : Int) + ((k : Int) + (j : Int)) := by omega
            have hremi : Hid (remR wr g s = s.size - (i + (k + j))) := remR_is hC2
            by_cases hlj : i + (k + j) < s.size
            · have hst := lineN_step s (i + (k + j)) hlj
              have b1 : (i : Int) + ((k : Int) + (j : Int)) < (s.size : Int) := by omega
              by_cases ht : s[i + (k + j)].toNat = 10
              · rw [if_pos ht] at hst
                have hjl : L = j := by rw [hst] at hL; omega
                subst hjl
                have q1 : ((s[i + (k + L)].toNat : Int) != 10) = false := by simp; omega
                have HC2 := Lib.hid hC2
                have HG2 := Lib.hid hG2
                clear hst ht hC2 hG2 hJ hL
                go_wp2
                go_quiet (fail)
                clear d0 d1 q1
                go_wp2
                go_roundw
                case rel => exact ⟨k + L, f, by omega, by omega, HRR.out.trans HS.out, HC2.out.drewN _, only_drewN HG2.out _⟩
                case measure => rw [hrem.out, remR_is (HC2.out.drewN _)]; omega
              · rw [if_neg ht] at hst
                have q1 : ((s[i + (k + j)].toNat : Int) != 10) = true := by simp; omega
                have HL2 : Hid (L = (j + 1) + lineN (rest s (i + (k + (j + 1))))) := by
                  unfold Hid
                  rw [hst] at hL
                  have e : i + (k + (j + 1)) = i + (k + j) + 1 := by omega
                  rw [e]; omega
                have hj1 : j + 1 ≤ L := by have := HL2.out; omega
                have HC2 := Lib.hid hC2
                have HG2 := Lib.hid hG2
                clear hst ht hC2 hG2 hJ hL
                go_wp2
                go_quiet (fail)
                clear d0 d1 q1
                go_wp2_with fail
                refine (HST.out _ (k + j) (HC2.out.drewN _) hlj).mono ?_
                rintro e w3 ⟨rfl, hC3, hG3⟩
                have HJ3 : Hid (L = (j + 1) + lineN (rest s (i + (k + (j + 1)))) ∧ RCur w3 g s (i + (k + (j + 1))) (posR p s i (k + (j + 1))) ∧ w.grownBy w3 (some g)) := ⟨HL2.out, hC3, only_trans (only_drewN HG2.out _) hG3⟩
                have HM3 : Hid (remR w3 g s = s.size - (i + (k + (j + 1)))) := remR_is hC3
                clear hC3 hG3
                go_wp2
                go_roundw
                case rel => exact ⟨j + 1, hj1, HJ3⟩
                case measure => rw [hremi.out, HM3.out]; omega
            · have hjl : L = j := by
                rw [rest_end s (i + (k + j)) (by omega)] at hL
                have e0 : lineN ([] : Bs) = 0 := rfl
                omega
              subst hjl
              have b1 : (s.size : Int) ≤ (i : Int) + ((k : Int) + (L : Int)) := by omega
              have q0 : decide ((i : Int) + ((k : Int) + (L : Int)) < (s.size : Int)) = false := by simp; omega
              have HC2 := Lib.hid hC2
              have HG2 := Lib.hid hG2
              clear hC2 hG2 hJ hL
              go_wp2
              go_quiet (fail)
              clear d0 d1 q0
              go_wp2
              go_roundw
              case rel => exact ⟨k + L, f, by omega, by omega, HRR.out.trans HS.out, HC2.out.drewN _, only_drewN HG2.out _⟩
              case measure => rw [hrem.out, remR_is (HC2.out.drewN _)]; omega
    · have he : rest s (i + k) = [] := rest_end s (i + k) (by omega)
      have hgz : gapR (rest s (i + k)) = (0, true) := by rw [he]; rfl
      rw [hgz, if_pos (.inr rfl)] at hs
      have HZ : Hid (R = (k, true)) := hR.trans hs
      have g1 : (s.size : Int) ≤ (i : Int) + (k : Int) := by omega
      have HC := Lib.hid hC
      have HG := Lib.hid hG
      clear hs hR he hC hG hgz
      go_wp2
      go_quiet (fail)
      go_wp2
      go_ret
      rw [HZ.out]
      exact ⟨rfl, HC.out.drewN _, only_drewN HG.out _⟩

end Go.Proofs.YtkjjagmpnnnimaaGreatDoor
