/- What the reference's skip returns, and where it leaves the cursor. What the reference's item returns. -/
import Derived.Test.YtoogbgmneabfnaaDoorG25
import Derived.Deep.RegionHeld3
namespace Go.Proofs.YtoogbgmneabfnaaDoor
open Go.RowKit M

theorem comN_bound (s : ByteArray) (i n : Nat) (h : comN (rest s i) = some n) (hp : [123, 45].isPrefixOf (rest s i) = true) : n ≤ s.size - i ∧ 2 ≤ n := by
  have hle := comF_le _ _ _ _ _ h
  rw [rest_length] at hle
  refine ⟨by omega, ?_⟩
  have hl := prefix2_le s i _ _ hp
  unfold comN at h
  rw [comF_step, if_neg (by intro e; have := congrArg List.length e; rw [rest_length] at this; simp at this; omega), if_pos hp, if_neg (by decide)] at h
  have := comF_le _ _ _ _ _ h
  omega
theorem RCur.all {w : World} {g : Nat} {s s' : ByteArray} {i i' : Nat} {p p' : Int × Int} (h : RCur w g s i p) {z : Int} (hz : z = i') :
    RCur ((((w.setCell ⟨g, 0, none⟩ (.string s')).setCell ⟨g, 1, none⟩ (.int .i64 z)).setCell ⟨g, 2, none⟩ (.int .i64 p'.1)).setCell ⟨g, 3, none⟩ (.int .i64 p'.2)) g s' i' p' := by
  subst hz
  have h0 : RCur (w.setCell ⟨g, 0, none⟩ (.string s')) g s' i p := by
    unfold RCur at h ⊢
    simp [World.setCell, Array.getElem?_modify, h]
  exact ((h0.set1 i').set2 p'.1).set3 p'.2
theorem RCur.alloc {w : World} {g : Nat} {s : ByteArray} {i : Nat} {p : Int × Int} (h : RCur w g s i p) (o : Obj) : RCur (w.alloc o) g s i p := (Below.heap_alloc _ _ _ h.lt).trans h
theorem only_alloc {a w : World} {row : Option Nat} (h : a.grownBy w row) (o : Obj) : a.grownBy (w.alloc o) row :=
  ⟨h.os, h.tape, h.output, Nat.le_trans h.size (by simp), fun i hi hne => (Below.heap_alloc w o i (Nat.lt_of_lt_of_le hi h.size)).trans (h.block i hi hne)⟩

def RSkPost (w : World) (g : Nat) (s : ByteArray) (i : Nat) (p : Int × Int) (r : Nat × Bool) (e : Ending) (w' : World) : Prop :=
  e = .returned (.bool r.2) ∧ RCur w' g s (i + r.1) (posR p s i r.1) ∧ w.grownBy w' (some g)
def RSkRel (w : World) (g : Nat) (s : ByteArray) (i : Nat) (p : Int × Int) (R : Nat × Bool) (k f : Nat) (wr : World) : Prop :=
  R = skF f (rest s (i + k)) k ∧ RCur wr g s (i + k) (posR p s i k) ∧ w.grownBy wr (some g)

theorem lineN_step (s : ByteArray) (j : Nat) (h : j < s.size) : lineN (rest s j) = if s[j].toNat = 10 then 0 else 1 + lineN (rest s (j + 1)) := by
  rw [rest_cons s j h]
  unfold lineN
  rw [List.takeWhile_cons]
  have e : (s[j] != 10) = !decide (s[j].toNat = 10) := by
    have := eq_of_toNat s[j] 10 (by decide)
    by_cases hc : s[j].toNat = 10
    · rw [decide_eq_true hc]; have := this.2 hc; rw [this]; rfl
    · rw [decide_eq_false hc]
      have hn : s[j] ≠ 10 := fun e => hc (this.1 e)
      simp [hn]
  rw [e]
  by_cases hc : s[j].toNat = 10
  · rw [if_pos hc, decide_eq_true hc]; rfl
  · rw [if_neg hc, decide_eq_false hc]; simp; omega

theorem gap_spec (s : ByteArray) (j : Nat) (h : j < s.size) : gapR (rest s j) = if s[j].toNat = 32 ∨ s[j].toNat = 9 ∨ s[j].toNat = 13 ∨ s[j].toNat = 10 then (1, true)
    else if [45, 45].isPrefixOf (rest s j) then (lineN (rest s j), true)
    else if [123, 45].isPrefixOf (rest s j) then comR (rest s j)
    else (0, true) := by
  have hr := rest_cons s j h
  have h45 : [45, 45].isPrefixOf (rest s j) = true → s[j].toNat = 45 := by
    rw [hr]; intro hp
    simp only [List.isPrefixOf, Bool.and_eq_true, beq_iff_eq] at hp
    rw [← hp.1]; rfl
  have h123 : [123, 45].isPrefixOf (rest s j) = true → s[j].toNat = 123 := by
    rw [hr]; intro hp
    simp only [List.isPrefixOf, Bool.and_eq_true, beq_iff_eq] at hp
    rw [← hp.1]; rfl
  have he : gapR (rest s j) = if s[j].toNat = 32 ∨ s[j].toNat = 9 ∨ s[j].toNat = 13 ∨ s[j].toNat = 10 then (1, true)
    else if s[j].toNat = 45 ∧ [45, 45].isPrefixOf (rest s j) then (lineN (rest s j), true)
    else if s[j].toNat = 123 ∧ [123, 45].isPrefixOf (rest s j) then comR (rest s j)
    else (0, true) := by
    rw [hr]; rfl
  rw [he]
  by_cases a : s[j].toNat = 32 ∨ s[j].toNat = 9 ∨ s[j].toNat = 13 ∨ s[j].toNat = 10
  · rw [if_pos a, if_pos a]
  rw [if_neg a, if_neg a]
  by_cases b : [45, 45].isPrefixOf (rest s j) = true
  · rw [if_pos ⟨h45 b, b⟩, if_pos b]
  rw [if_neg (fun k => b k.2), if_neg b]
  by_cases c : [123, 45].isPrefixOf (rest s j) = true
  · rw [if_pos ⟨h123 c, c⟩, if_pos c]
  rw [if_neg (fun k => c k.2), if_neg c]

theorem lineN_pos (s : ByteArray) (j : Nat) (h : [45, 45].isPrefixOf (rest s j) = true) : 0 < lineN (rest s j) := by
  have hle := prefix2_le s j _ _ h
  have hr := rest_cons s j (by omega)
  rw [lineN_step s j (by omega)]
  have h45 : s[j].toNat = 45 := by
    rw [hr] at h
    simp only [List.isPrefixOf, Bool.and_eq_true, beq_iff_eq] at h
    rw [← h.1]; rfl
  rw [if_neg (by omega)]; omega

set_option maxRecDepth 100000 in
set_option maxHeartbeats 4000000 in
theorem rskip_any (w : World) (g : Nat) (s : ByteArray) (i : Nat) (p : Int × Int) (hc : RCur w g s i p) (hm : s.size ≤ 65536) (hi : i ≤ s.size)
    (h1 : 0 ≤ p.1) (h2 : p.1 ≤ 200000) (h3 : 0 ≤ p.2) (h4 : p.2 ≤ 200000) :
    Calls Tryd.prog 27 #[.pointer (some ⟨g, 0, none⟩)] w (RSkPost w g s i p (sk (rest s i))) := by
  have hR : Hid (RSkRel w g s i p (sk (rest s i)) 0 (s.size - i + 1) w) := by
    refine ⟨?_, hc, only_refl _ _⟩
    unfold sk; rw [rest_length]; rfl
  clear hc
  generalize sk (rest s i) = R at *
  go_enter Tryd.func27, Tryd.ntmps27
  go_wp2
  go_loopw [3] (fun _ wr => ∃ (k f : Nat), i + k ≤ s.size ∧ s.size + 1 ≤ f + i + k ∧ Hid (RSkRel w g s i p R k f wr)) (fun _ wr => remR wr g s)
  case atStart => exact ⟨0, s.size - i + 1, by omega, by omega, hR⟩
  case round =>
    clear hR
    obtain ⟨k, f, hk, hf, hRel⟩ := hrel
    obtain ⟨f, rfl⟩ : ∃ x, f = x + 1 := ⟨f - 1, by omega⟩
    obtain ⟨hR, hC, hG⟩ := hRel.out
    clear hRel
    have hs := skF_step f (rest s (i + k)) k
    have d0 := hC.c0
    have d1 := hC.c1
    have hrem : Hid (remR wr g s = s.size - (i + k)) := remR_is hC
    have b0 : (0 : Int) ≤ (i : Int) + (k : Int) := by omega
    by_cases hlt : i + k < s.size
    · have hgs := gap_spec s (i + k) hlt
      have g1 : (i : Int) + (k : Int) < (s.size : Int) := by omega
      have HAT := Lib.hid (fun (W : World) (hW : RCur W g s (i + k) (posR p s i k)) (a b : UInt8) r hr => rat_any W g s (i + k) _ hW hm (by omega) a b r hr)
      have HST := Lib.hid (fun (W : World) (j : Nat) (hW : RCur W g s (i + j) (posR p s i j)) (hj : i + j < s.size) => by
        have hb := posR_bound p s i j h1 (by omega) h3 (by omega) (by omega)
        have := rstep_any W g s (i + j) _ hW hm hj hb.1 hb.2.1 hb.2.2.1 hb.2.2.2
        rw [← posR_next p s i j hj] at this
        exact this)
      have HRR := Lib.hid hR
      have HC := Lib.hid hC
      have HG := Lib.hid hG
      clear hR hC hG
      by_cases hw : s[i + k].toNat = 32 ∨ s[i + k].toNat = 9 ∨ s[i + k].toNat = 13 ∨ s[i + k].toNat = 10
      · rw [if_pos hw] at hgs
        rw [hgs, if_neg (by simp), rest_drop] at hs
        have HS := Lib.hid hs
        clear hgs hs
        rcases hw with hw | hw | hw | hw
        all_goals
          have hv := cast_to _ _ hw
          clear hw
          go_wp2
          go_quiet (fail)
          go_wp2
          go_quiet (fail)
          clear d0 d1
          go_wp2_with fail
          refine (HST.out _ k (HC.out.drewN _) hlt).mono ?_
          rintro e w1 ⟨rfl, hC1, hG1⟩
          have HR1 : Hid (RSkRel w g s i p R (k + 1) f w1) := ⟨HRR.out.trans HS.out, hC1, only_trans (only_drewN HG.out _) hG1⟩
          have HM1 : Hid (remR w1 g s = s.size - (i + (k + 1))) := remR_is hC1
          clear hC1 hG1
          go_wp2
          go_roundw
          case rel => exact ⟨k + 1, f, by omega, by omega, HR1⟩
          case measure => rw [hrem.out, HM1.out]; omega
      · rw [if_neg hw] at hgs
        have q1 : ((s[i + k].toNat : Int) == 32) = false := beq_eq_false_iff_ne.2 (by omega)
        have q2 : ((s[i + k].toNat : Int) == 9) = false := beq_eq_false_iff_ne.2 (by omega)
        have q3 : ((s[i + k].toNat : Int) == 13) = false := beq_eq_false_iff_ne.2 (by omega)
        have q4 : ((s[i + k].toNat : Int) == 10) = false := beq_eq_false_iff_ne.2 (by omega)
        clear hw
        go_wp2
        go_quiet (fail)
        go_wp2
        go_quiet (fail)
        clear d0 d1
        cases hp1 : [45, 45].isPrefixOf (rest s (i + k))
        · rw [hp1, if_neg (by decide)] at hgs
          have HP1 := Lib.hid hp1
          clear hp1
          cases hp2 : [123, 45].isPrefixOf (rest s (i + k))
          · rw [hp2, if_neg (by decide)] at hgs
            rw [hgs, if_pos (.inr rfl)] at hs
            have HS := Lib.hid hs
            have HP2 := Lib.hid hp2
            clear hgs hs hp2
            go_wp2_with fail
            refine (HAT.out _ (HC.out.drewN _) 45 45 false HP1.out).mono ?_
            rintro e w1 ⟨rfl, hC1, hG1⟩
            go_wp2_with fail
            refine (HAT.out _ hC1 123 45 false HP2.out).mono ?_
            rintro e w2 ⟨rfl, hC2, hG2⟩
            have HF : Hid (RSkPost w g s i p (k, true) (.returned (.bool true)) w2) := ⟨rfl, hC2, only_trans (only_trans (only_drewN HG.out _) hG1) hG2⟩
            have HZ : Hid (R = (k, true)) := HRR.out.trans HS.out
            clear hC1 hG1 hC2 hG2
            go_wp2
            go_ret
            rw [HZ.out]
            exact HF.out
          · rw [hp2, if_pos rfl] at hgs
            have HP2 := Lib.hid hp2
            rw [hgs] at hs
            have hpb := posR_bound p s i k h1 (by omega) h3 (by omega) (by omega)
            have hpt : (posR p s i k).1 ≤ 300000 ∧ (posR p s i k).2 ≤ 300000 := by
              have hb := posA_bound ((rest s i).take k) p h1 h3
              have hl : ((rest s i).take k).length ≤ k := List.length_take_le _ _
              unfold posR; omega
            have HCM := Lib.hid (fun (W : World) (hW : RCur W g s (i + k) (posR p s i k)) => rcomment_any W g s (i + k) (posR p s i k) hW hm (by omega) hpb.1 hpt.1 hpb.2.2.1 hpt.2)
            have HCR := Lib.hid (fun n hn => comN_bound s (i + k) n hn HP2.out)
            unfold comR at hs
            clear hp2 hgs hpb hpt
            cases hcn : comN (rest s (i + k))
            · rw [hcn] at hs HCM
              rw [if_pos (.inl rfl)] at hs
              have HS := Lib.hid hs
              clear hs hcn HCR
              go_wp2_with fail
              refine (HAT.out _ (HC.out.drewN _) 45 45 false HP1.out).mono ?_
              rintro e w1 ⟨rfl, hC1, hG1⟩
              go_wp2_with fail
              refine (HAT.out _ hC1 123 45 true HP2.out).mono ?_
              rintro e w2 ⟨rfl, hC2, hG2⟩
              have HG2 : Hid (w.grownBy w2 (some g)) := only_trans (only_trans (only_drewN HG.out _) hG1) hG2
              have HC2 := Lib.hid hC2
              have c0 := hC2.c0
              have c1 := hC2.c1
              have c2 := hC2.c2
              have c3 := hC2.c3
              clear hC1 hG1 hC2 hG2
              obtain ⟨q, hq⟩ : ∃ q, posR p s i k = q := ⟨_, rfl⟩
              rw [hq] at HC2 HCM c2 c3
              have HPQ := Lib.hid hq
              clear hq
              obtain ⟨a, b⟩ := q
              simp only at c2 c3
              go_wp2_with fail
              refine (HCM.out _ (HC2.out.alloc _)).mono ?_
              rintro e w3 ⟨rfl, ⟨i', p', hC3⟩, hG3⟩
              have hwas := (hG3.block w2.heap.size (by simp) (by have := HC2.out.lt; intro e; injection e; omega)).trans (heap_alloc_new w2 _)
              have y0 := cell_of_row w3 _ 0 _ _ _ hwas
              have y1 := cell_of_row w3 _ 1 _ _ _ hwas
              have y2 := cell_of_row w3 _ 2 _ _ _ hwas
              have y3 := cell_of_row w3 _ 3 _ _ _ hwas
              simp at y0 y1 y2 y3
              have z0 := hC3.c0
              have z1 := hC3.c1
              have z2 := hC3.c2
              have z3 := hC3.c3
              have zf := hC3.f
              have HC3 := Lib.hid hC3
              have HG3 : Hid (w.grownBy w3 (some g)) := only_trans (only_alloc HG2.out _) hG3
              have HZ : Hid (R = (k, false)) := HRR.out.trans HS.out
              clear hC3 hG3 hwas c0 c1 c2 c3
              go_wp2
              go_ret
              rw [HZ.out]
              refine ⟨rfl, ?_, only_set (only_set (only_set (only_set HG3.out _ _) _ _) _ _) _ _⟩
              have HP := HPQ.out
              rw [HP]
              exact RCur.all (p' := (a, b)) HC3.out (by omega)
            · rename_i n
              rw [hcn] at hs HCM
              obtain ⟨hn1, hn2⟩ := HCR.out n hcn
              rw [if_neg (by simp; omega), rest_drop, Nat.add_assoc] at hs
              have HS := Lib.hid hs
              clear hs hcn HCR
              go_wp2_with fail
              refine (HAT.out _ (HC.out.drewN _) 45 45 false HP1.out).mono ?_
              rintro e w1 ⟨rfl, hC1, hG1⟩
              go_wp2_with fail
              refine (HAT.out _ hC1 123 45 true HP2.out).mono ?_
              rintro e w2 ⟨rfl, hC2, hG2⟩
              have HG2 : Hid (w.grownBy w2 (some g)) := only_trans (only_trans (only_drewN HG.out _) hG1) hG2
              have HC2 := Lib.hid hC2
              have c0 := hC2.c0
              have c1 := hC2.c1
              have c2 := hC2.c2
              have c3 := hC2.c3
              clear hC1 hG1 hC2 hG2
              have HPA := Lib.hid (posR_add p s i k n)
              go_wp2_with fail
              refine (HCM.out _ (HC2.out.alloc _)).mono ?_
              rintro e w3 ⟨rfl, hC3, hG3⟩
              rw [HPA.out, Nat.add_assoc] at hC3
              have HR3 : Hid (RSkRel w g s i p R (k + n) f w3) := ⟨HRR.out.trans HS.out, hC3, only_trans (only_alloc HG2.out _) hG3⟩
              have HM3 : Hid (remR w3 g s = s.size - (i + (k + n))) := remR_is hC3
              clear hC3 hG3 c0 c1 c2 c3
              go_wp2
              go_roundw
              case rel => exact ⟨k + n, f, by omega, by omega, HR3⟩
              case measure => rw [hrem.out, HM3.out]; omega
        · rw [hp1, if_pos rfl] at hgs
          have hlp := lineN_pos s (i + k) hp1
          have hll := lineN_le (rest s (i + k))
          rw [rest_length] at hll
          rw [hgs, if_neg (by simp; omega), rest_drop, Nat.add_assoc] at hs
          obtain ⟨L, hLe⟩ : ∃ L, L = lineN (rest s (i + k)) := ⟨_, rfl⟩
          rw [← hLe] at hs hlp hll
          have HL : Hid (L = 0 + lineN (rest s (i + (k + 0)))) := by unfold Hid; rw [Nat.zero_add]; exact hLe
          have HS := Lib.hid hs
          have HP1 := Lib.hid hp1
          clear hgs hs hp1 hLe
          go_wp2_with fail
          refine (HAT.out _ (HC.out.drewN _) 45 45 true HP1.out).mono ?_
          rintro e w1 ⟨rfl, hC1, hG1⟩
          have HC1 := Lib.hid hC1
          have HG1 : Hid (w.grownBy w1 (some g)) := only_trans (only_drewN HG.out _) hG1
          clear hC1 hG1
          obtain ⟨wo, rfl⟩ : ∃ wo : World, wo = w1 := ⟨_, rfl⟩
          go_wp2
          go_loopw [44] (fun _ wi => ∃ j : Nat, j ≤ L ∧ Hid (L = j + lineN (rest s (i + (k + j))) ∧ RCur wi g s (i + (k + j)) (posR p s i (k + j)) ∧ w.grownBy wi (some g))) (fun _ wi => remR wi g s)
          case atStart => exact ⟨0, by omega, HL.out, HC1.out, HG1.out⟩
          case round =>
            obtain ⟨j, hj, hJ⟩ := hrel
            obtain ⟨hL, hC2, hG2⟩ := hJ.out
            have d0 := hC2.c0
            have d1 := hC2.c1
            have b0 : (0 : Int) ≤ (i : Int) + ((k : Int) + (j : Int)) := by omega
            have hremi : Hid (remR wr g s = s.size - (i + (k + j))) := remR_is hC2
            by_cases hlj : i + (k + j) < s.size
            · have hst := lineN_step s (i + (k + j)) hlj
              have b1 : (i : Int) + ((k : Int) + (j : Int)) < (s.size : Int) := by omega
              by_cases ht : s[i + (k + j)].toNat = 10
              · rw [if_pos ht] at hst
                have hjl : L = j := by rw [hst] at hL; omega
                subst hjl
                have q1 : ((s[i + (k + L)].toNat : Int) != 10) = false := by simp; omega
                have HC2 := Lib.hid hC2
                have HG2 := Lib.hid hG2
                clear hst ht hC2 hG2 hJ hL
                go_wp2
                go_quiet (fail)
                clear d0 d1 q1
                go_wp2
                go_roundw
                case rel => exact ⟨k + L, f, by omega, by omega, HRR.out.trans HS.out, HC2.out.drewN _, only_drewN HG2.out _⟩
                case measure => rw [hrem.out, remR_is (HC2.out.drewN _)]; omega
              · rw [if_neg ht] at hst
                have q1 : ((s[i + (k + j)].toNat : Int) != 10) = true := by simp; omega
                have HL2 : Hid (L = (j + 1) + lineN (rest s (i + (k + (j + 1))))) := by
                  unfold Hid
                  rw [hst] at hL
                  have e : i + (k + (j + 1)) = i + (k + j) + 1 := by omega
                  rw [e]; omega
                have hj1 : j + 1 ≤ L := by have := HL2.out; omega
                have HC2 := Lib.hid hC2
                have HG2 := Lib.hid hG2
                clear hst ht hC2 hG2 hJ hL
                go_wp2
                go_quiet (fail)
                clear d0 d1 q1
                go_wp2_with fail
                refine (HST.out _ (k + j) (HC2.out.drewN _) hlj).mono ?_
                rintro e w3 ⟨rfl, hC3, hG3⟩
                have HJ3 : Hid (L = (j + 1) + lineN (rest s (i + (k + (j + 1)))) ∧ RCur w3 g s (i + (k + (j + 1))) (posR p s i (k + (j + 1))) ∧ w.grownBy w3 (some g)) := ⟨HL2.out, hC3, only_trans (only_drewN HG2.out _) hG3⟩
                have HM3 : Hid (remR w3 g s = s.size - (i + (k + (j + 1)))) := remR_is hC3
                clear hC3 hG3
                go_wp2
                go_roundw
                case rel => exact ⟨j + 1, hj1, HJ3⟩
                case measure => rw [hremi.out, HM3.out]; omega
            · have hjl : L = j := by
                rw [rest_end s (i + (k + j)) (by omega)] at hL
                have e0 : lineN ([] : Bs) = 0 := rfl
                omega
              subst hjl
              have b1 : (s.size : Int) ≤ (i : Int) + ((k : Int) + (L : Int)) := by omega
              have q0 : decide ((i : Int) + ((k : Int) + (L : Int)) < (s.size : Int)) = false := by simp; omega
              have HC2 := Lib.hid hC2
              have HG2 := Lib.hid hG2
              clear hC2 hG2 hJ hL
              go_wp2
              go_quiet (fail)
              clear d0 d1 q0
              go_wp2
              go_roundw
              case rel => exact ⟨k + L, f, by omega, by omega, HRR.out.trans HS.out, HC2.out.drewN _, only_drewN HG2.out _⟩
              case measure => rw [hrem.out, remR_is (HC2.out.drewN _)]; omega
    · have he : rest s (i + k) = [] := rest_end s (i + k) (by omega)
      have hgz : gapR (rest s (i + k)) = (0, true) := by rw [he]; rfl
      rw [hgz, if_pos (.inr rfl)] at hs
      have HZ : Hid (R = (k, true)) := hR.trans hs
      have g1 : (s.size : Int) ≤ (i : Int) + (k : Int) := by omega
      have HC := Lib.hid hC
      have HG := Lib.hid hG
      clear hs hR he hC hG hgz
      go_wp2
      go_quiet (fail)
      go_wp2
      go_ret
      rw [HZ.out]
      exact ⟨rfl, HC.out.drewN _, only_drewN HG.out _⟩

end Go.Proofs.YtoogbgmneabfnaaDoor

namespace Go.Proofs.YtoogbgmneabfnaaDoor
open Go.RowKit M

/-- what the reference's item returns of an item, its size and its position -/
def ritemV (t : TR) (n : Nat) (p : Int × Int) : Value :=
  if t.err = 0 then .tuple #[tokV t.kind t.num t.str p.1 p.2, .int .i64 n, .int .i64 0] else .tuple #[tokV 0 0 [] 0 0, .int .i64 0, .int .i64 t.err]

def RItemPost (w : World) (v : Value) (e : Ending) (w' : World) : Prop := e = .returned v ∧ Below w.heap.size w w'

/-- symbolAt, with the two cells that the region beside it reads -/
theorem rsym_held (s : ByteArray) (hm : s.size ≤ 65536) (i : Nat) (hi : i ≤ s.size) (g : Nat) (W : World) (hg : g < W.heap.size) (h0 : W.cell? ⟨g, 0, none⟩ = some (.string s)) (h1 : W.cell? ⟨g, 1, none⟩ = some (.int .i64 i)) :
    Calls Tryd.prog 48 #[.string s, .int .i64 i] W fun e w' => e = .returned (.string (S (symB (rest s i)))) ∧ w'.cell? ⟨g, 0, none⟩ = some (.string s) ∧ w'.cell? ⟨g, 1, none⟩ = some (.int .i64 i) ∧ Below W.heap.size W w' :=
  (rsym_loop s hm i hi W).mono fun _ _ ⟨he, hb⟩ => ⟨he, (hb.cell (p := ⟨g, 0, none⟩) hg).trans h0, (hb.cell (p := ⟨g, 1, none⟩) hg).trans h1, hb⟩

set_option maxRecDepth 100000 in
set_option maxHeartbeats 2000000 in
theorem ritem_nosym (w : World) (g : Nat) (s : ByteArray) (i : Nat) (p : Int × Int) (hc : RCur w g s i p) (hm : s.size ≤ 65536) (hi : i < s.size)
    (hl : letterB s[i] = false) (hd : digitB s[i] = false) (hy : symB (rest s i) = []) :
    Calls Tryd.prog 28 #[.pointer (some ⟨g, 0, none⟩)] w (RItemPost w (.tuple #[tokV 0 0 [] 0 0, .int .i64 0, .int .i64 2])) := by
  have HS := Lib.hid (fun W hg h0 h1 => rsym_held s hm i (by omega) g W hg h0 h1)
  rw [hy] at HS
  have hg := hc.lt
  have d0 := hc.c0
  have d1 := hc.c1
  have x0 : ∀ o : Obj, (w.alloc o).cell? ⟨g, 0, none⟩ = some (.string s) := fun o => (RCur.alloc hc o).c0
  have x1 : ∀ o : Obj, (w.alloc o).cell? ⟨g, 1, none⟩ = some (.int .i64 i) := fun o => (RCur.alloc hc o).c1
  have b0 : (0 : Int) ≤ (i : Int) := by omega
  have b1 : (i : Int) < (s.size : Int) := by omega
  clear hc hy
  go_enter Tryd.func28, Tryd.ntmps28
  go_wp2
  go_quiet (fail)
  go_wp2_with (first | (go_at_call 46; refine (rletter_any _ _).mono ?_; rintro e w' ⟨rfl, rfl⟩) | (go_at_call 47; refine (rdigit_any _ _).mono ?_; rintro e w' ⟨rfl, rfl⟩))
  go_region_held3 (fun w' => w'.cell? ⟨g, 0, none⟩ = some (.string s) ∧ w'.cell? ⟨g, 1, none⟩ = some (.int .i64 i)) (go_keep)
    (first | (go_at_call 48; refine (HS.out _ ?_ ?_ ?_).mono ?_; (simp; omega); (simp [*]); (simp [*]); rintro e w1 ⟨rfl, hk0, hk1, hb1⟩))
  obtain ⟨hc, hf⟩ := bcell hb1
  have hz : w.heap.size + 1 ≤ w1.heap.size := by have := hb1.size; simp at this; omega
  go_wp2
  obtain ⟨hc, _⟩ := bcell hb1
  refine bodyPost_ret (v := .tuple #[tokV 0 0 [] 0 0, .int .i64 0, .int .i64 2]) ?_ rfl ⟨rfl, ?_⟩
  · simp [results, Tryd.results28, go_sem, hc]
  · exact (((((((below_drewN' ((Below.refl _ _).alloc (Nat.le_refl _) _) _).trans (hb1.mono (by simp))).setCell (by simp) _).setCell (by simp) _).setCell (by simp) _).setCell (by simp) _).setCell (by simp) _)

set_option maxRecDepth 100000 in
set_option maxHeartbeats 2000000 in
theorem ritem_sym (w : World) (g : Nat) (s : ByteArray) (i : Nat) (p : Int × Int) (hc : RCur w g s i p) (hm : s.size ≤ 65536) (hi : i < s.size)
    (hl : letterB s[i] = false) (hd : digitB s[i] = false) (y : Bs) (hy : symB (rest s i) = y) (hne : y ≠ []) (hyl : y.length ≤ 4) :
    Calls Tryd.prog 28 #[.pointer (some ⟨g, 0, none⟩)] w (RItemPost w (.tuple #[tokV 4 0 y p.1 p.2, .int .i64 y.length, .int .i64 0])) := by
  have HS := Lib.hid (fun W hg h0 h1 => rsym_held s hm i (by omega) g W hg h0 h1)
  rw [hy] at HS
  obtain ⟨e1, e2⟩ := notEmpty (S y) (isEmptyS y hne)
  have HY : Hid ((S y).size = y.length) := rfl
  have hq4 : (S y).size ≤ 4 := by rw [HY.out]; exact hyl
  have hg := hc.lt
  have d0 := hc.c0
  have d1 := hc.c1
  have d2 := hc.c2
  have d3 := hc.c3
  have x0 : ∀ o : Obj, (w.alloc o).cell? ⟨g, 0, none⟩ = some (.string s) := fun o => (RCur.alloc hc o).c0
  have x1 : ∀ o : Obj, (w.alloc o).cell? ⟨g, 1, none⟩ = some (.int .i64 i) := fun o => (RCur.alloc hc o).c1
  have b0 : (0 : Int) ≤ (i : Int) := by omega
  have b1 : (i : Int) < (s.size : Int) := by omega
  obtain ⟨a, b⟩ := p
  simp only at d2 d3
  obtain ⟨q, hq⟩ : ∃ q, S y = q := ⟨_, rfl⟩
  rw [hq] at HS e1 e2 HY hq4
  have HQ := Lib.hid hq
  have HCU := Lib.hid hc
  clear hc hy hq hyl hne
  go_enter Tryd.func28, Tryd.ntmps28
  go_wp2
  go_quiet (fail)
  go_wp2_with (first | (go_at_call 46; refine (rletter_any _ _).mono ?_; rintro e w' ⟨rfl, rfl⟩) | (go_at_call 47; refine (rdigit_any _ _).mono ?_; rintro e w' ⟨rfl, rfl⟩))
  go_region_held3 (fun w' => w'.cell? ⟨g, 0, none⟩ = some (.string s) ∧ w'.cell? ⟨g, 1, none⟩ = some (.int .i64 i)) (go_keep)
    (first | (go_at_call 48; refine (HS.out _ ?_ ?_ ?_).mono ?_; (simp; omega); (simp [*]); (simp [*]); rintro e w1 ⟨rfl, hk0, hk1, hb1⟩))
  obtain ⟨hc, hf⟩ := bcell hb1
  have hz : w.heap.size + 1 ≤ w1.heap.size := by have := hb1.size; simp at this; omega
  have k2 : w1.cell? ⟨g, 2, none⟩ = some (.int .i64 a) := by rw [hc g 2 (by simp; omega)]; exact (RCur.alloc HCU.out _).c2
  have k3 : w1.cell? ⟨g, 3, none⟩ = some (.int .i64 b) := by rw [hc g 3 (by simp; omega)]; exact (RCur.alloc HCU.out _).c3
  go_wp2
  obtain ⟨hc, _⟩ := bcell hb1
  refine bodyPost_ret (v := .tuple #[tokV 4 0 y a b, .int .i64 y.length, .int .i64 0]) ?_ rfl ⟨rfl, ?_⟩
  · rw [← HY.out]
    unfold tokV
    rw [HQ.out]
    simp [results, Tryd.results28, go_sem, hc]
  · exact (((((((below_drewN' ((Below.refl _ _).alloc (Nat.le_refl _) _) _).trans (hb1.mono (by simp))).setCell (by simp) _).setCell (by simp) _).setCell (by simp) _).setCell (by simp) _).setCell (by simp) _)

theorem quiet_again {P : Program} {f : FuncId} {args : Array Value} {w : World} {a n : Nat} {v : Value}
    (h : Calls P f args (w.drewN (a + n)) fun e w' => e = .returned v ∧ w' = w.drewN (a + n)) :
    Calls P f args (w.drewN (a + n)) fun e w'' => e = .returned v ∧ ∃ m, w'' = w.drewN (a + m) :=
  h.mono fun _ _ ⟨he, hm⟩ => ⟨he, n, hm⟩

/-- what wordEnd returns at an index -/
def WEnd (s : ByteArray) (i N : Nat) : Prop := ∀ W, Calls Tryd.prog 49 #[.string s, .int .i64 i] W fun e w' => e = .returned (.int .i64 (i + N : Nat)) ∧ w' = W

end Go.Proofs.YtoogbgmneabfnaaDoor
