/- What the reference's comment returns, and where it leaves the cursor. -/
import Derived.Test.YtbegenmhfmpgpaaDoorLexR4
namespace Go.Proofs.YtbegenmhfmpgpaaDoor
open Go.RowKit M

/-- the position k bytes behind index i -/
def posR (p : Int × Int) (s : ByteArray) (i k : Nat) : Int × Int := posA p ((rest s i).take k)
theorem posR_zero (p : Int × Int) (s : ByteArray) (i : Nat) : posR p s i 0 = p := rfl
theorem posR_next (p : Int × Int) (s : ByteArray) (i k : Nat) (h : i + k < s.size) : posR p s i (k + 1) = stepP (posR p s i k) s[i + k] := by
  unfold posR
  have hl : k < (rest s i).length := by rw [rest_length]; omega
  have e : (rest s i)[k] = s[i + k] := by
    have h1 := rest_cons s (i + k) h
    rw [← rest_drop s i k, List.drop_eq_getElem_cons hl] at h1
    injection h1
  rw [List.take_succ_eq_append_getElem hl, posA_append, e]; rfl
theorem posR_bound (p : Int × Int) (s : ByteArray) (i k : Nat) (h1 : 0 ≤ p.1) (h2 : p.1 ≤ 300000) (h3 : 0 ≤ p.2) (h4 : p.2 ≤ 300000) (hk : k ≤ 65536) :
    0 ≤ (posR p s i k).1 ∧ (posR p s i k).1 ≤ 1000000 ∧ 0 ≤ (posR p s i k).2 ∧ (posR p s i k).2 ≤ 1000000 := by
  have := posA_bound ((rest s i).take k) p h1 h3
  have hl : ((rest s i).take k).length ≤ k := List.length_take_le _ _
  unfold posR
  omega
theorem posR_add (p : Int × Int) (s : ByteArray) (i a b : Nat) : posR (posR p s i a) s (i + a) b = posR p s i (a + b) := by
  unfold posR
  rw [← posA_append, ← rest_drop, List.take_add]

/-- how many bytes are left behind the cursor's index -/
def remR (w : World) (g : Nat) (s : ByteArray) : Nat := match w.cell? ⟨g, 1, none⟩ with
  | some (.int _ n) => s.size - n.toNat
  | _ => 0
theorem remR_is {w : World} {g : Nat} {s : ByteArray} {i : Nat} {p : Int × Int} (h : RCur w g s i p) : remR w g s = s.size - i := by
  unfold remR; rw [h.c1]; simp

def ComPost (w : World) (g : Nat) (s : ByteArray) (i : Nat) (p : Int × Int) (r : Option Nat) (e : Ending) (w' : World) : Prop :=
  match r with
  | some n => e = .returned (.bool true) ∧ RCur w' g s (i + n) (posR p s i n) ∧ w.grownBy w' (some g)
  | none => e = .returned (.bool false) ∧ (∃ i' p', RCur w' g s i' p') ∧ w.grownBy w' (some g)

def ComRel (w : World) (g : Nat) (s : ByteArray) (i : Nat) (p : Int × Int) (R : Option Nat) (d : Int) (k f : Nat) (wr : World) : Prop :=
  R = comF f d (rest s (i + k)) k ∧ RCur wr g s (i + k) (posR p s i k) ∧ w.grownBy wr (some g)

set_option maxHeartbeats 2000000 in
theorem rcomment_any (w : World) (g : Nat) (s : ByteArray) (i : Nat) (p : Int × Int) (hc : RCur w g s i p) (hm : s.size ≤ 65536) (hi : i ≤ s.size)
    (h1 : 0 ≤ p.1) (h2 : p.1 ≤ 300000) (h3 : 0 ≤ p.2) (h4 : p.2 ≤ 300000) :
    Calls Tryd.prog 60 #[.pointer (some ⟨g, 0, none⟩)] w (ComPost w g s i p (comN (rest s i))) := by
  have hR : Hid (ComRel w g s i p (comN (rest s i)) 0 0 (s.size - i + 1) w) := by
    refine ⟨?_, hc, only_refl _ _⟩
    unfold comN; rw [rest_length]; rfl
  clear hc
  generalize comN (rest s i) = R at *
  go_enter Tryd.func60, Tryd.ntmps60
  go_wp2
  go_loopw [3] (fun t wr => ∃ (d : Int) (k f : Nat), -(k : Int) ≤ d ∧ d ≤ k ∧ i + k ≤ s.size ∧ s.size + 1 ≤ f + i + k ∧ t = .int .i64 d ∧ Hid (ComRel w g s i p R d k f wr)) (fun _ wr => remR wr g s)
  case atStart => exact ⟨0, 0, s.size - i + 1, by omega, by omega, by omega, by omega, rfl, hR⟩
  case round =>
    clear hR
    obtain ⟨d, k, f, hd1, hd2, hk, hf, rfl, hRel⟩ := hrel
    obtain ⟨f, rfl⟩ : ∃ x, f = x + 1 := ⟨f - 1, by omega⟩
    obtain ⟨hR, hC, hG⟩ := hRel.out
    clear hRel
    have hs := comF_step f d (rest s (i + k)) k
    have e2 := rest_drop s (i + k) 2
    have e1 := rest_drop s (i + k) 1
    have d0 := hC.c0
    have d1 := hC.c1
    have hrem : Hid (remR wr g s = s.size - (i + k)) := remR_is hC
    have b0 : (0 : Int) ≤ (i : Int) + (k : Int) := by omega
    by_cases hlt : i + k < s.size
    · have hne : rest s (i + k) ≠ [] := by rw [rest_cons s (i + k) hlt]; simp
      rw [if_neg hne] at hs
      have g1 : (i : Int) + (k : Int) < (s.size : Int) := by omega
      have HAT := fun (W : World) (hW : RCur W g s (i + k) (posR p s i k)) (a b : UInt8) r hr => rat_any W g s (i + k) _ hW hm (by omega) a b r hr
      have HAT := Lib.hid HAT
      have HST := Lib.hid (fun (W : World) (j : Nat) (hW : RCur W g s (i + j) (posR p s i j)) (hj : i + j < s.size) => by
        have hb := posR_bound p s i j h1 h2 h3 h4 (by omega)
        have := rstep_any W g s (i + j) _ hW hm hj hb.1 hb.2.1 hb.2.2.1 hb.2.2.2
        rw [← posR_next p s i j hj] at this
        exact this)
      have HRR := Lib.hid hR
      have HC := Lib.hid hC
      have HG := Lib.hid hG
      clear hR hC hG hne
      go_wp2
      go_quiet (fail)
      clear d0 d1
      cases hp1 : [123, 45].isPrefixOf (rest s (i + k))
      · rw [hp1, if_neg (by decide)] at hs
        have HP1 := Lib.hid hp1
        cases hp2 : [45, 125].isPrefixOf (rest s (i + k))
        · rw [hp2, if_neg (by decide), e1] at hs
          have HP2 := Lib.hid hp2
          clear hp1 hp2 e1 e2
          by_cases hd : d = 0
          · -- other, zero
            rw [if_pos hd] at hs
            have g0 : (d == 0) = true := beq_iff_eq.2 hd
            have HS := Lib.hid hs
            clear hs hd
            go_wp2_with fail
            refine (HAT.out _ (HC.out.drewN _) 123 45 false HP1.out).mono ?_
            rintro e w1 ⟨rfl, hC1, hG1⟩
            go_wp2_with fail
            refine (HAT.out _ hC1 45 125 false HP2.out).mono ?_
            rintro e w2 ⟨rfl, hC2, hG2⟩
            go_wp2_with fail
            refine (HST.out _ k hC2 (by omega)).mono ?_
            rintro e w3 ⟨rfl, hC3, hG3⟩
            have hfin : ComPost w g s i p (some (k + 1)) (.returned (.bool true)) w3 := ⟨rfl, hC3, only_trans (only_trans (only_trans (only_drewN HG.out _) hG1) hG2) hG3⟩
            have HF := Lib.hid hfin
            have HZ : Hid (R = some (k + 1)) := HRR.out.trans HS.out
            clear hfin hC1 hG1 hC2 hG2 hC3 hG3
            go_wp2
            go_ret
            rw [HZ.out]
            exact HF.out
          · -- other
            rw [if_neg hd] at hs
            have g0 : (d == 0) = false := beq_eq_false_iff_ne.2 hd
            have HS := Lib.hid hs
            clear hs hd
            go_wp2_with fail
            refine (HAT.out _ (HC.out.drewN _) 123 45 false HP1.out).mono ?_
            rintro e w1 ⟨rfl, hC1, hG1⟩
            go_wp2_with fail
            refine (HAT.out _ hC1 45 125 false HP2.out).mono ?_
            rintro e w2 ⟨rfl, hC2, hG2⟩
            go_wp2_with fail
            refine (HST.out _ k hC2 (by omega)).mono ?_
            rintro e w3 ⟨rfl, hC3, hG3⟩
            have HR3 : Hid (ComRel w g s i p R (d) (k + 1) f w3) := ⟨HRR.out.trans HS.out, hC3, only_trans (only_trans (only_trans (only_drewN HG.out _) hG1) hG2) hG3⟩
            have hm3 : remR w3 g s = s.size - (i + (k + 1)) := remR_is hC3
            have HM3 := Lib.hid hm3
            clear hm3 hC1 hG1 hC2 hG2 hC3 hG3
            go_wp2
            go_roundw
            case rel => exact ⟨d, k + 1, f, by omega, by omega, by omega, by omega, rfl, HR3⟩
            case measure => rw [hrem.out, HM3.out]; omega
        · rw [hp2, if_pos rfl, e2] at hs
          have hle := prefix2_le s (i + k) _ _ hp2
          have HP2 := Lib.hid hp2
          clear hp1 hp2 e1 e2
          by_cases hd : d - 1 = 0
          · -- shut, zero
            rw [if_pos hd] at hs
            obtain rfl : d = 1 := by omega
            have HS := Lib.hid hs
            clear hs hd
            go_wp2_with fail
            refine (HAT.out _ (HC.out.drewN _) 123 45 false HP1.out).mono ?_
            rintro e w1 ⟨rfl, hC1, hG1⟩
            go_wp2_with fail
            refine (HAT.out _ hC1 45 125 true HP2.out).mono ?_
            rintro e w2 ⟨rfl, hC2, hG2⟩
            go_wp2_with fail
            refine (HST.out _ k hC2 (by omega)).mono ?_
            rintro e w3 ⟨rfl, hC3, hG3⟩
            go_wp2_with fail
            refine (HST.out _ (k + 1) hC3 (by omega)).mono ?_
            rintro e w4 ⟨rfl, hC4, hG4⟩
            have hfin : ComPost w g s i p (some (k + 2)) (.returned (.bool true)) w4 := ⟨rfl, hC4, only_trans (only_trans (only_trans (only_trans (only_drewN HG.out _) hG1) hG2) hG3) hG4⟩
            have HF := Lib.hid hfin
            have HZ : Hid (R = some (k + 2)) := HRR.out.trans HS.out
            clear hfin hC1 hG1 hC2 hG2 hC3 hG3 hC4 hG4
            go_wp2
            go_ret
            rw [HZ.out]
            exact HF.out
          · -- shut
            rw [if_neg hd] at hs
            have g0 : (d - 1 == 0) = false := beq_eq_false_iff_ne.2 hd
            have HS := Lib.hid hs
            clear hs hd
            go_wp2_with fail
            refine (HAT.out _ (HC.out.drewN _) 123 45 false HP1.out).mono ?_
            rintro e w1 ⟨rfl, hC1, hG1⟩
            go_wp2_with fail
            refine (HAT.out _ hC1 45 125 true HP2.out).mono ?_
            rintro e w2 ⟨rfl, hC2, hG2⟩
            go_wp2_with fail
            refine (HST.out _ k hC2 (by omega)).mono ?_
            rintro e w3 ⟨rfl, hC3, hG3⟩
            go_wp2_with fail
            refine (HST.out _ (k + 1) hC3 (by omega)).mono ?_
            rintro e w4 ⟨rfl, hC4, hG4⟩
            have HR3 : Hid (ComRel w g s i p R (d - 1) (k + 2) f w4) := ⟨HRR.out.trans HS.out, hC4, only_trans (only_trans (only_trans (only_trans (only_drewN HG.out _) hG1) hG2) hG3) hG4⟩
            have hm3 : remR w4 g s = s.size - (i + (k + 2)) := remR_is hC4
            have HM3 := Lib.hid hm3
            clear hm3 hC1 hG1 hC2 hG2 hC3 hG3 hC4 hG4
            go_wp2
            go_roundw
            case rel => exact ⟨d - 1, k + 2, f, by omega, by omega, by omega, by omega, rfl, HR3⟩
            case measure => rw [hrem.out, HM3.out]; omega
      · rw [hp1, if_pos rfl, e2] at hs
        have hle := prefix2_le s (i + k) _ _ hp1
        have HP1 := Lib.hid hp1
        clear hp1 e1 e2
        by_cases hd : d + 1 = 0
        · -- open, zero
          rw [if_pos hd] at hs
          have g0 : (d + 1 == 0) = true := beq_iff_eq.2 hd
          have HS := Lib.hid hs
          clear hs hd
          go_wp2_with fail
          refine (HAT.out _ (HC.out.drewN _) 123 45 true HP1.out).mono ?_
          rintro e w1 ⟨rfl, hC1, hG1⟩
          go_wp2_with fail
          refine (HST.out _ k hC1 (by omega)).mono ?_
          rintro e w2 ⟨rfl, hC2, hG2⟩
          go_wp2_with fail
          refine (HST.out _ (k + 1) hC2 (by omega)).mono ?_
          rintro e w3 ⟨rfl, hC3, hG3⟩
          have hfin : ComPost w g s i p (some (k + 2)) (.returned (.bool true)) w3 := ⟨rfl, hC3, only_trans (only_trans (only_trans (only_drewN HG.out _) hG1) hG2) hG3⟩
          have HF := Lib.hid hfin
          have HZ : Hid (R = some (k + 2)) := HRR.out.trans HS.out
          clear hfin hC1 hG1 hC2 hG2 hC3 hG3
          go_wp2
          go_ret
          rw [HZ.out]
          exact HF.out
        · -- open
          rw [if_neg hd] at hs
          have g0 : (d + 1 == 0) = false := beq_eq_false_iff_ne.2 hd
          have HS := Lib.hid hs
          clear hs hd
          go_wp2_with fail
          refine (HAT.out _ (HC.out.drewN _) 123 45 true HP1.out).mono ?_
          rintro e w1 ⟨rfl, hC1, hG1⟩
          go_wp2_with fail
          refine (HST.out _ k hC1 (by omega)).mono ?_
          rintro e w2 ⟨rfl, hC2, hG2⟩
          go_wp2_with fail
          refine (HST.out _ (k + 1) hC2 (by omega)).mono ?_
          rintro e w3 ⟨rfl, hC3, hG3⟩
          have HR3 : Hid (ComRel w g s i p R (d + 1) (k + 2) f w3) := ⟨HRR.out.trans HS.out, hC3, only_trans (only_trans (only_trans (only_drewN HG.out _) hG1) hG2) hG3⟩
          have hm3 : remR w3 g s = s.size - (i + (k + 2)) := remR_is hC3
          have HM3 := Lib.hid hm3
          clear hm3 hC1 hG1 hC2 hG2 hC3 hG3
          go_wp2
          go_roundw
          case rel => exact ⟨d + 1, k + 2, f, by omega, by omega, by omega, by omega, rfl, HR3⟩
          case measure => rw [hrem.out, HM3.out]; omega
    · have he : rest s (i + k) = [] := rest_end s (i + k) (by omega)
      rw [if_pos he] at hs
      have hz : Hid (R = none) := hR.trans hs
      have g1 : (s.size : Int) ≤ (i : Int) + (k : Int) := by omega
      have HC := Lib.hid hC
      have HG := Lib.hid hG
      clear hs hR he hC hG e1 e2
      go_wp2
      go_quiet (fail)
      go_wp2
      go_ret
      rw [hz.out]
      exact ⟨rfl, ⟨_, _, HC.out.drewN _⟩, only_drewN HG.out _⟩

end Go.Proofs.YtbegenmhfmpgpaaDoor
