/- What the reference's cursor does: step, at, comment, skip move the one block that the cursor is. What the reference's comment returns, and where it leaves the cursor. -/
import Derived.Test.YtoogbgmneabfnaaDoorG19
namespace Go.Proofs.YtoogbgmneabfnaaDoor
open Go.RowKit M

/-- block g is a reference's cursor: its source, the index, the line, the column -/
def RCur (w : World) (g : Nat) (s : ByteArray) (i : Nat) (p : Int × Int) : Prop := w.heap[g]? = some (.cells #[.string s, .int .i64 i, .int .i64 p.1, .int .i64 p.2] 61 (0, 0))

section
variable {w w' : World} {g : Nat} {s : ByteArray} {i : Nat} {p : Int × Int}
theorem RCur.lt (h : RCur w g s i p) : g < w.heap.size := lt_of_some h
theorem RCur.c0 (h : RCur w g s i p) : w.cell? ⟨g, 0, none⟩ = some (.string s) := cell_of_row w g 0 _ _ _ h
theorem RCur.c1 (h : RCur w g s i p) : w.cell? ⟨g, 1, none⟩ = some (.int .i64 i) := cell_of_row w g 1 _ _ _ h
theorem RCur.c2 (h : RCur w g s i p) : w.cell? ⟨g, 2, none⟩ = some (.int .i64 p.1) := cell_of_row w g 2 _ _ _ h
theorem RCur.c3 (h : RCur w g s i p) : w.cell? ⟨g, 3, none⟩ = some (.int .i64 p.2) := cell_of_row w g 3 _ _ _ h
theorem RCur.f (h : RCur w g s i p) (j : Nat) : w.frozen? ⟨g, j, none⟩ = false := by
  unfold RCur at h; simp [World.frozen?, h]
theorem RCur.set1 (h : RCur w g s i p) (n : Nat) : RCur (w.setCell ⟨g, 1, none⟩ (.int .i64 n)) g s n p := by
  unfold RCur at h ⊢
  simp [World.setCell, Array.getElem?_modify, h]
theorem RCur.set2 (h : RCur w g s i p) (n : Int) : RCur (w.setCell ⟨g, 2, none⟩ (.int .i64 n)) g s i (n, p.2) := by
  unfold RCur at h ⊢
  simp [World.setCell, Array.getElem?_modify, h]
theorem RCur.set3 (h : RCur w g s i p) (n : Int) : RCur (w.setCell ⟨g, 3, none⟩ (.int .i64 n)) g s i (p.1, n) := by
  unfold RCur at h ⊢
  simp [World.setCell, Array.getElem?_modify, h]
theorem RCur.grown {row : Option Nat} (h : RCur w g s i p) (hg : w.grownBy w' row) (hr : some g ≠ row) : RCur w' g s i p := (hg.block g h.lt hr).trans h
theorem RCur.drewN (h : RCur w g s i p) (n : Nat) : RCur (w.drewN n) g s i p := h
end
theorem only_drewN {a w : World} {row : Option Nat} (h : a.grownBy w row) (n : Nat) : a.grownBy (w.drewN n) row := ⟨h.os, h.tape, h.output, h.size, h.block⟩
theorem int_eq {a b : Int} (h : a = b) : Value.int .i64 a = .int .i64 b := by rw [h]

/-- what a step leaves: the cursor one byte on -/
def StepPost (w : World) (g : Nat) (s : ByteArray) (i : Nat) (p : Int × Int) (e : Ending) (w' : World) : Prop :=
  e = .returned (.tuple #[]) ∧ RCur w' g s i p ∧ w.grownBy w' (some g)

set_option maxHeartbeats 1000000 in
theorem rstep_any (w : World) (g : Nat) (s : ByteArray) (i : Nat) (p : Int × Int) (hc : RCur w g s i p) (hm : s.size ≤ 65536) (hi : i < s.size)
    (h1 : 0 ≤ p.1) (h2 : p.1 ≤ 1000000) (h3 : 0 ≤ p.2) (h4 : p.2 ≤ 1000000) :
    Calls Tryd.prog 29 #[.pointer (some ⟨g, 0, none⟩)] w (StepPost w g s (i + 1) (stepP p s[i])) := by
  have d0 := hc.c0
  have d1 := hc.c1
  have d2 := hc.c2
  have d3 := hc.c3
  have f1 := hc.f 1
  have f2 := hc.f 2
  have f3 := hc.f 3
  have HC := Lib.hid hc
  clear hc
  obtain ⟨a, b⟩ := p
  simp only at h1 h2 h3 h4 d2 d3
  have b0 : (0 : Int) ≤ (i : Int) := by omega
  have b1 : (i : Int) < (s.size : Int) := by omega
  by_cases ht : s[i].toNat = 10
  · have hs : Hid (stepP (a, b) s[i] = (a + 1, 1)) := by unfold Hid stepP; rw [if_pos ht]
    have hv := cast_to _ _ ht
    clear ht
    go_enter Tryd.func29, Tryd.ntmps29
    go_wp2
    go_quiet (fail)
    go_wp2
    go_end0
    refine ⟨rfl, ?_, ?_⟩
    · rw [hs.out]
      exact (((HC.out.drewN _).set2 _).set3 _).set1 (i + 1)
    · exact only_set (only_set (only_set (only_drewN (only_refl w (some g)) _) _ _) _ _) _ _
  · have hs : Hid (stepP (a, b) s[i] = (a, b + 1)) := by unfold Hid stepP; rw [if_neg ht]
    have g0 : ((s[i].toNat : Int) == 10) = false := beq_eq_false_iff_ne.2 (by omega)
    clear ht
    go_enter Tryd.func29, Tryd.ntmps29
    go_wp2
    go_quiet (fail)
    go_wp2
    go_end0
    refine ⟨rfl, ?_, ?_⟩
    · rw [hs.out]
      exact ((HC.out.drewN _).set3 _).set1 (i + 1)
    · exact only_set (only_set (only_drewN (only_refl w (some g)) _) _ _) _ _

/-- what a look at the next two bytes leaves -/
def AtPost (w : World) (g : Nat) (s : ByteArray) (i : Nat) (p : Int × Int) (r : Bool) (e : Ending) (w' : World) : Prop :=
  e = .returned (.bool r) ∧ RCur w' g s i p ∧ w.grownBy w' (some g)

set_option maxHeartbeats 1000000 in
theorem rat_any (w : World) (g : Nat) (s : ByteArray) (i : Nat) (p : Int × Int) (hc : RCur w g s i p) (hm : s.size ≤ 65536) (hi : i ≤ s.size) (a b : UInt8) (r : Bool) (hr : [a, b].isPrefixOf (rest s i) = r) :
    Calls Tryd.prog 44 #[.pointer (some ⟨g, 0, none⟩), .string ⟨#[a, b]⟩] w (AtPost w g s i p r) := by
  have d0 := hc.c0
  have d1 := hc.c1
  have HC := Lib.hid hc
  have hpx := prefix_take [a, b] (rest s i)
  rw [rest_length, hr] at hpx
  have hext : (s.extract i (i + 2)).data.toList = (rest s i).take 2 := by
    unfold rest
    rw [ByteArray.data_extract, Array.toList_extract, List.extract_eq_take_drop]
    rw [Nat.add_sub_cancel_left]
  clear hc hr
  have ht : (⟨#[a, b]⟩ : ByteArray).toList = [a, b] := by rw [ByteArray.toList_eq]
  have hz : (⟨#[a, b]⟩ : ByteArray).size = 2 := rfl
  have hl : ([a, b] : Bs).length = 2 := rfl
  rw [hl] at hpx
  generalize (⟨#[a, b]⟩ : ByteArray) = t at *
  by_cases h1 : i + 2 ≤ s.size
  · rw [decide_eq_true (by omega), Bool.true_and] at hpx
    have c2 : ((s.extract i (i + 2)).toList == t.toList) = r := by
      rw [ByteArray.toList_eq, hext, ht]; exact hpx.symm
    have HZ := Lib.hid hz
    have g1 : (i : Int) + 2 ≤ (s.size : Int) := by omega
    have g2 : (0 : Int) ≤ (i : Int) := by omega
    have s1 : IntKind.i64.wrap ((i : Int) + 2) = (i : Int) + 2 := IntWalk.i64_in _ (by omega)
    have s2 : decide ((i : Int) + 2 ≤ (s.size : Int)) = true := by simp; omega
    have s3 : (0 : Int) ≤ (i : Int) + 2 := by omega
    have s4 : ((i : Int) + 2).toNat = i + 2 := by omega
    clear hpx hext ht hl h1
    cases r
    all_goals
      go_enter Tryd.func44, Tryd.ntmps44
      go_wp2
      go_quiet (fail)
      go_wp2
      go_ret
      exact ⟨rfl, HC.out.drewN _, only_drewN (only_refl w (some g)) _⟩
  · rw [decide_eq_false (by omega), Bool.false_and] at hpx
    subst hpx
    have HZ := Lib.hid hz
    have g1 : (s.size : Int) < (i : Int) + 2 := by omega
    have g2 : (0 : Int) ≤ (i : Int) := by omega
    have s1 : IntKind.i64.wrap ((i : Int) + 2) = (i : Int) + 2 := IntWalk.i64_in _ (by omega)
    have s2 : decide ((i : Int) + 2 ≤ (s.size : Int)) = false := by simp; omega
    clear hext ht hl h1
    go_enter Tryd.func44, Tryd.ntmps44
    go_wp2
    go_quiet (fail)
    go_wp2
    go_ret
    exact ⟨rfl, HC.out.drewN _, only_drewN (only_refl w (some g)) _⟩

end Go.Proofs.YtoogbgmneabfnaaDoor

namespace Go.Proofs.YtoogbgmneabfnaaDoor
open Go.RowKit M

/-- the position k bytes behind index i -/
def posR (p : Int × Int) (s : ByteArray) (i k : Nat) : Int × Int := posA p ((rest s i).take k)
theorem posR_zero (p : Int × Int) (s : ByteArray) (i : Nat) : posR p s i 0 = p := rfl
theorem posR_next (p : Int × Int) (s : ByteArray) (i k : Nat) (h : i + k < s.size) : posR p s i (k + 1) = stepP (posR p s i k) s[i + k] := by
  unfold posR
  have hl : k < (rest s i).length := by rw [rest_length]; omega
  have e : (rest s i)[k] = s[i + k] := by
    have h1 := rest_cons s (i + k) h
    rw [← rest_drop s i k, List.drop_eq_getElem_cons hl] at h1
    injection h1
  rw [List.take_succ_eq_append_getElem hl, posA_append, e]; rfl
theorem posR_bound (p : Int × Int) (s : ByteArray) (i k : Nat) (h1 : 0 ≤ p.1) (h2 : p.1 ≤ 300000) (h3 : 0 ≤ p.2) (h4 : p.2 ≤ 300000) (hk : k ≤ 65536) :
    0 ≤ (posR p s i k).1 ∧ (posR p s i k).1 ≤ 1000000 ∧ 0 ≤ (posR p s i k).2 ∧ (posR p s i k).2 ≤ 1000000 := by
  have := posA_bound ((rest s i).take k) p h1 h3
  have hl : ((rest s i).take k).length ≤ k := List.length_take_le _ _
  unfold posR
  omega
theorem posR_add (p : Int × Int) (s : ByteArray) (i a b : Nat) : posR (posR p s i a) s (i + a) b = posR p s i (a + b) := by
  unfold posR
  rw [← posA_append, ← rest_drop, List.take_add]

/-- how many bytes are left behind the cursor's index -/
def remR (w : World) (g : Nat) (s : ByteArray) : Nat := match w.cell? ⟨g, 1, none⟩ with
  | some (.int _ n) => s.size - n.toNat
  | _ => 0
theorem remR_is {w : World} {g : Nat} {s : ByteArray} {i : Nat} {p : Int × Int} (h : RCur w g s i p) : remR w g s = s.size - i := by
  unfold remR; rw [h.c1]; simp

def ComPost (w : World) (g : Nat) (s : ByteArray) (i : Nat) (p : Int × Int) (r : Option Nat) (e : Ending) (w' : World) : Prop :=
  match r with
  | some n => e = .returned (.bool true) ∧ RCur w' g s (i + n) (posR p s i n) ∧ w.grownBy w' (some g)
  | none => e = .returned (.bool false) ∧ (∃ i' p', RCur w' g s i' p') ∧ w.grownBy w' (some g)

def ComRel (w : World) (g : Nat) (s : ByteArray) (i : Nat) (p : Int × Int) (R : Option Nat) (d : Int) (k f : Nat) (wr : World) : Prop :=
  R = comF f d (rest s (i + k)) k ∧ RCur wr g s (i + k) (posR p s i k) ∧ w.grownBy wr (some g)

set_option maxHeartbeats 2000000 in
theorem rcomment_any (w : World) (g : Nat) (s : ByteArray) (i : Nat) (p : Int × Int) (hc : RCur w g s i p) (hm : s.size ≤ 65536) (hi : i ≤ s.size)
    (h1 : 0 ≤ p.1) (h2 : p.1 ≤ 300000) (h3 : 0 ≤ p.2) (h4 : p.2 ≤ 300000) :
    Calls Tryd.prog 45 #[.pointer (some ⟨g, 0, none⟩)] w (ComPost w g s i p (comN (rest s i))) := by
  have hR : Hid (ComRel w g s i p (comN (rest s i)) 0 0 (s.size - i + 1) w) := by
    refine ⟨?_, hc, only_refl _ _⟩
    unfold comN; rw [rest_length]; rfl
  clear hc
  generalize comN (rest s i) = R at *
  go_enter Tryd.func45, Tryd.ntmps45
  go_wp2
  go_loopw [3] (fun t wr => ∃ (d : Int) (k f : Nat), -(k : Int) ≤ d ∧ d ≤ k ∧ i + k ≤ s.size ∧ s.size + 1 ≤ f + i + k ∧ t = .int .i64 d ∧ Hid (ComRel w g s i p R d k f wr)) (fun _ wr => remR wr g s)
  case atStart => exact ⟨0, 0, s.size - i + 1, by omega, by omega, by omega, by omega, rfl, hR⟩
  case round =>
    clear hR
    obtain ⟨d, k, f, hd1, hd2, hk, hf, rfl, hRel⟩ := hrel
    obtain ⟨f, rfl⟩ : ∃ x, f = x + 1 := ⟨f - 1, by omega⟩
    obtain ⟨hR, hC, hG⟩ := hRel.out
    clear hRel
    have hs := comF_step f d (rest s (i + k)) k
    have e2 := rest_drop s (i + k) 2
    have e1 := rest_drop s (i + k) 1
    have d0 := hC.c0
    have d1 := hC.c1
    have hrem : Hid (remR wr g s = s.size - (i + k)) := remR_is hC
    have b0 : (0 : Int) ≤ (i : Int) + (k : Int) := by omega
    by_cases hlt : i + k < s.size
    · have hne : rest s (i + k) ≠ [] := by rw [rest_cons s (i + k) hlt]; simp
      rw [if_neg hne] at hs
      have g1 : (i : Int) + (k : Int) < (s.size : Int) := by omega
      have HAT := fun (W : World) (hW : RCur W g s (i + k) (posR p s i k)) (a b : UInt8) r hr => rat_any W g s (i + k) _ hW hm (by omega) a b r hr
      have HAT := Lib.hid HAT
      have HST := Lib.hid (fun (W : World) (j : Nat) (hW : RCur W g s (i + j) (posR p s i j)) (hj : i + j < s.size) => by
        have hb := posR_bound p s i j h1 h2 h3 h4 (by omega)
        have := rstep_any W g s (i + j) _ hW hm hj hb.1 hb.2.1 hb.2.2.1 hb.2.2.2
        rw [← posR_next p s i j hj] at this
        exact this)
      have HRR := Lib.hid hR
      have HC := Lib.hid hC
      have HG := Lib.hid hG
      clear hR hC hG hne
      go_wp2
      go_quiet (fail)
      clear d0 d1
      cases hp1 : [123, 45].isPrefixOf (rest s (i + k))
      · rw [hp1, if_neg (by decide)] at hs
        have HP1 := Lib.hid hp1
        cases hp2 : [45, 125].isPrefixOf (rest s (i + k))
        · rw [hp2, if_neg (by decide), e1] at hs
          have HP2 := Lib.hid hp2
          clear hp1 hp2 e1 e2
          by_cases hd : d = 0
          · -- other, zero
            rw [if_pos hd] at hs
            have g0 : (d == 0) = true := beq_iff_eq.2 hd
            have HS := Lib.hid hs
            clear hs hd
            go_wp2_with fail
            refine (HAT.out _ (HC.out.drewN _) 123 45 false HP1.out).mono ?_
            rintro e w1 ⟨rfl, hC1, hG1⟩
            go_wp2_with fail
            refine (HAT.out _ hC1 45 125 false HP2.out).mono ?_
            rintro e w2 ⟨rfl, hC2, hG2⟩
            go_wp2_with fail
            refine (HST.out _ k hC2 (by omega)).mono ?_
            rintro e w3 ⟨rfl, hC3, hG3⟩
            have hfin : ComPost w g s i p (some (k + 1)) (.returned (.bool true)) w3 := ⟨rfl, hC3, only_trans (only_trans (only_trans (only_drewN HG.out _) hG1) hG2) hG3⟩
            have HF := Lib.hid hfin
            have HZ : Hid (R = some (k + 1)) := HRR.out.trans HS.out
            clear hfin hC1 hG1 hC2 hG2 hC3 hG3
            go_wp2
            go_ret
            rw [HZ.out]
            exact HF.out
          · -- other
            rw [if_neg hd] at hs
            have g0 : (d == 0) = false := beq_eq_false_iff_ne.2 hd
            have HS := Lib.hid hs
            clear hs hd
            go_wp2_with fail
            refine (HAT.out _ (HC.out.drewN _) 123 45 false HP1.out).mono ?_
            rintro e w1 ⟨rfl, hC1, hG1⟩
            go_wp2_with fail
            refine (HAT.out _ hC1 45 125 false HP2.out).mono ?_
            rintro e w2 ⟨rfl, hC2, hG2⟩
            go_wp2_with fail
            refine (HST.out _ k hC2 (by omega)).mono ?_
            rintro e w3 ⟨rfl, hC3, hG3⟩
            have HR3 : Hid (ComRel w g s i p R (d) (k + 1) f w3) := ⟨HRR.out.trans HS.out, hC3, only_trans (only_trans (only_trans (only_drewN HG.out _) hG1) hG2) hG3⟩
            have hm3 : remR w3 g s = s.size - (i + (k + 1)) := remR_is hC3
            have HM3 := Lib.hid hm3
            clear hm3 hC1 hG1 hC2 hG2 hC3 hG3
            go_wp2
            go_roundw
            case rel => exact ⟨d, k + 1, f, by omega, by omega, by omega, by omega, rfl, HR3⟩
            case measure => rw [hrem.out, HM3.out]; omega
        · rw [hp2, if_pos rfl, e2] at hs
          have hle := prefix2_le s (i + k) _ _ hp2
          have HP2 := Lib.hid hp2
          clear hp1 hp2 e1 e2
          by_cases hd : d - 1 = 0
          · -- shut, zero
            rw [if_pos hd] at hs
            obtain rfl : d = 1 := by omega
            have HS := Lib.hid hs
            clear hs hd
            go_wp2_with fail
            refine (HAT.out _ (HC.out.drewN _) 123 45 false HP1.out).mono ?_
            rintro e w1 ⟨rfl, hC1, hG1⟩
            go_wp2_with fail
            refine (HAT.out _ hC1 45 125 true HP2.out).mono ?_
            rintro e w2 ⟨rfl, hC2, hG2⟩
            go_wp2_with fail
            refine (HST.out _ k hC2 (by omega)).mono ?_
            rintro e w3 ⟨rfl, hC3, hG3⟩
            go_wp2_with fail
            refine (HST.out _ (k + 1) hC3 (by omega)).mono ?_
            rintro e w4 ⟨rfl, hC4, hG4⟩
            have hfin : ComPost w g s i p (some (k + 2)) (.returned (.bool true)) w4 := ⟨rfl, hC4, only_trans (only_trans (only_trans (only_trans (only_drewN HG.out _) hG1) hG2) hG3) hG4⟩
            have HF := Lib.hid hfin
            have HZ : Hid (R = some (k + 2)) := HRR.out.trans HS.out
            clear hfin hC1 hG1 hC2 hG2 hC3 hG3 hC4 hG4
            go_wp2
            go_ret
            rw [HZ.out]
            exact HF.out
          · -- shut
            rw [if_neg hd] at hs
            have g0 : (d - 1 == 0) = false := beq_eq_false_iff_ne.2 hd
            have HS := Lib.hid hs
            clear hs hd
            go_wp2_with fail
            refine (HAT.out _ (HC.out.drewN _) 123 45 false HP1.out).mono ?_
            rintro e w1 ⟨rfl, hC1, hG1⟩
            go_wp2_with fail
            refine (HAT.out _ hC1 45 125 true HP2.out).mono ?_
            rintro e w2 ⟨rfl, hC2, hG2⟩
            go_wp2_with fail
            refine (HST.out _ k hC2 (by omega)).mono ?_
            rintro e w3 ⟨rfl, hC3, hG3⟩
            go_wp2_with fail
            refine (HST.out _ (k + 1) hC3 (by omega)).mono ?_
            rintro e w4 ⟨rfl, hC4, hG4⟩
            have HR3 : Hid (ComRel w g s i p R (d - 1) (k + 2) f w4) := ⟨HRR.out.trans HS.out, hC4, only_trans (only_trans (only_trans (only_trans (only_drewN HG.out _) hG1) hG2) hG3) hG4⟩
            have hm3 : remR w4 g s = s.size - (i + (k + 2)) := remR_is hC4
            have HM3 := Lib.hid hm3
            clear hm3 hC1 hG1 hC2 hG2 hC3 hG3 hC4 hG4
            go_wp2
            go_roundw
            case rel => exact ⟨d - 1, k + 2, f, by omega, by omega, by omega, by omega, rfl, HR3⟩
            case measure => rw [hrem.out, HM3.out]; omega
      · rw [hp1, if_pos rfl, e2] at hs
        have hle := prefix2_le s (i + k) _ _ hp1
        have HP1 := Lib.hid hp1
        clear hp1 e1 e2
        by_cases hd : d + 1 = 0
        · -- open, zero
          rw [if_pos hd] at hs
          have g0 : (d + 1 == 0) = true := beq_iff_eq.2 hd
          have HS := Lib.hid hs
          clear hs hd
          go_wp2_with fail
          refine (HAT.out _ (HC.out.drewN _) 123 45 true HP1.out).mono ?_
          rintro e w1 ⟨rfl, hC1, hG1⟩
          go_wp2_with fail
          refine (HST.out _ k hC1 (by omega)).mono ?_
          rintro e w2 ⟨rfl, hC2, hG2⟩
          go_wp2_with fail
          refine (HST.out _ (k + 1) hC2 (by omega)).mono ?_
          rintro e w3 ⟨rfl, hC3, hG3⟩
          have hfin : ComPost w g s i p (some (k + 2)) (.returned (.bool true)) w3 := ⟨rfl, hC3, only_trans (only_trans (only_trans (only_drewN HG.out _) hG1) hG2) hG3⟩
          have HF := Lib.hid hfin
          have HZ : Hid (R = some (k + 2)) := HRR.out.trans HS.out
          clear hfin hC1 hG1 hC2 hG2 hC3 hG3
          go_wp2
          go_ret
          rw [HZ.out]
          exact HF.out
        · -- open
          rw [if_neg hd] at hs
          have g0 : (d + 1 == 0) = false := beq_eq_false_iff_ne.2 hd
          have HS := Lib.hid hs
          clear hs hd
          go_wp2_with fail
          refine (HAT.out _ (HC.out.drewN _) 123 45 true HP1.out).mono ?_
          rintro e w1 ⟨rfl, hC1, hG1⟩
          go_wp2_with fail
          refine (HST.out _ k hC1 (by omega)).mono ?_
          rintro e w2 ⟨rfl, hC2, hG2⟩
          go_wp2_with fail
          refine (HST.out _ (k + 1) hC2 (by omega)).mono ?_
          rintro e w3 ⟨rfl, hC3, hG3⟩
          have HR3 : Hid (ComRel w g s i p R (d + 1) (k + 2) f w3) := ⟨HRR.out.trans HS.out, hC3, only_trans (only_trans (only_trans (only_drewN HG.out _) hG1) hG2) hG3⟩
          have hm3 : remR w3 g s = s.size - (i + (k + 2)) := remR_is hC3
          have HM3 := Lib.hid hm3
          clear hm3 hC1 hG1 hC2 hG2 hC3 hG3
          go_wp2
          go_roundw
          case rel => exact ⟨d + 1, k + 2, f, by omega, by omega, by omega, by omega, rfl, HR3⟩
          case measure => rw [hrem.out, HM3.out]; omega
    · have he : rest s (i + k) = [] := rest_end s (i + k) (by omega)
      rw [if_pos he] at hs
      have hz : Hid (R = none) := hR.trans hs
      have g1 : (s.size : Int) ≤ (i : Int) + (k : Int) := by omega
      have HC := Lib.hid hC
      have HG := Lib.hid hG
      clear hs hR he hC hG e1 e2
      go_wp2
      go_quiet (fail)
      go_wp2
      go_ret
      rw [hz.out]
      exact ⟨rfl, ⟨_, _, HC.out.drewN _⟩, only_drewN HG.out _⟩

end Go.Proofs.YtoogbgmneabfnaaDoor
