/- The reference's Needs, and equal lists of rows. Condition: a list of nodes has a length. -/
import Derived.Test.YtgdmmkgdnfkadaaDoorTyT
import Derived.Test.YtgdmmkgdnfkadaaDoorTyC
import Derived.Deep.QuietTactic
import Derived.BigQuiet
namespace Go.Proofs.YtgdmmkgdnfkadaaDoor
open Go.RowKit M

def okB (k c b : Int) : Bool := (bits .and .i64 c b == 0) || cls k b
theorem bits_tab : (bits .and .i64 0 1 = 0 ∧ bits .and .i64 1 1 = 1 ∧ bits .and .i64 2 1 = 0 ∧ bits .and .i64 3 1 = 1 ∧ bits .and .i64 4 1 = 0 ∧ bits .and .i64 5 1 = 1 ∧ bits .and .i64 6 1 = 0 ∧ bits .and .i64 7 1 = 1) ∧
    (bits .and .i64 0 4 = 0 ∧ bits .and .i64 1 4 = 0 ∧ bits .and .i64 2 4 = 0 ∧ bits .and .i64 3 4 = 0 ∧ bits .and .i64 4 4 = 4 ∧ bits .and .i64 5 4 = 4 ∧ bits .and .i64 6 4 = 4 ∧ bits .and .i64 7 4 = 4) := by
  refine ⟨⟨?_, ?_, ?_, ?_, ?_, ?_, ?_, ?_⟩, ⟨?_, ?_, ?_, ?_, ?_, ?_, ?_, ?_⟩⟩ <;> rfl
set_option linter.unusedSimpArgs false in
theorem perm_bits (k c : Int) (h0 : 0 ≤ c) (h7 : c ≤ 7) : perm k c = (okB k c 1 && (okB k c 2 && okB k c 4)) := by
  have hc : c = 0 ∨ c = 1 ∨ c = 2 ∨ c = 3 ∨ c = 4 ∨ c = 5 ∨ c = 6 ∨ c = 7 := by omega
  unfold okB perm cls
  by_cases h1 : k = 1 ∨ k = 2 ∨ k = 3 ∨ k = 7 ∨ k = 10
  · rcases hc with rfl | rfl | rfl | rfl | rfl | rfl | rfl | rfl <;> simp [h1, bits2, bits_tab]
  · by_cases h2 : k = 4 ∨ k = 6 ∨ k = 8 ∨ k = 9 ∨ k = 12 ∨ k = 13
    · rcases hc with rfl | rfl | rfl | rfl | rfl | rfl | rfl | rfl <;> simp [h1, h2, bits2, bits_tab]
    · rcases hc with rfl | rfl | rfl | rfl | rfl | rfl | rfl | rfl <;> simp [h1, h2, bits2, bits_tab]
def accN (ts : List TN) (c : Int) (j : Nat) : List Int := if c = 0 then [] else needV (ts.take j)
theorem needV_step {ts : List TN} {j : Nat} {t : TN} (h : ts[j]? = some t) : needV (ts.take (j + 1)) = insN (needV (ts.take j)) t := by
  unfold needV
  rw [List.take_add_one, h, List.foldl_append]
  rfl
theorem accN_len (ts : List TN) (c : Int) (j : Nat) : (accN ts c j).length ≤ j := by
  unfold accN
  split
  · simp
  · have := needV_len (ts.take j)
    rw [List.length_take] at this; omega
theorem accN_var {ts : List TN} {c : Int} {j : Nat} {num kids : Int} (h : ts[j]? = some (1, num, kids)) (hc : c ≠ 0) : accN ts c (j + 1) = insV (accN ts c j) num := by
  unfold accN
  rw [if_neg hc, if_neg hc, needV_step h]
  rfl
theorem accN_not {ts : List TN} {c : Int} {j : Nat} {t : TN} (h : ts[j]? = some t) (hk : t.1 ≠ 1 ∨ c = 0) : accN ts c (j + 1) = accN ts c j := by
  unfold accN
  by_cases hc : c = 0
  · rw [if_pos hc, if_pos hc]
  · rw [if_neg hc, if_neg hc, needV_step h]
    unfold insN
    rw [if_neg (hk.resolve_right hc)]
theorem accN_all {ts : List TN} {c : Int} (h : okN ts c = true) {j : Nat} (hj : ts.length ≤ j) : resN ts c = accN ts c j := by
  unfold resN accN
  rw [List.take_of_length_le hj]
  by_cases hc : c = 0
  · rw [if_pos hc, if_neg (fun q => q.2 hc)]
  · rw [if_neg hc, if_pos ⟨h, hc⟩]

set_option maxRecDepth 100000 in
set_option maxHeartbeats 6400000 in
theorem rneeds_any (w : World) (A : Option Addr) (n cp : Nat) (c : Int) (ts : List TN) (hn : n = ts.length) (hl : n ≤ maxLen) (hA : InC w A (ts.flatMap ndCells)) :
    Calls Tryd.prog 38 #[.slice A n cp, .int .i64 c] w (NeedsPost ts c w) := by
  have HA := hide hA
  subst hn
  unfold maxLen at hl
  clear hA
  go_enter Tryd.func38, Tryd.ntmps38
  go_wp2_with fail
  cases hv : valT ts
  · have HOF := Lib.hid (okN_val (c := c) hv)
    refine (rvalid_b ts _ hv _ A cp (by unfold maxLen; omega) (unhide HA)).mono ?_
    rintro e w1 ⟨rfl, hb1⟩
    have HB1 := hide hb1
    clear hb1
    go_wp2_with fail
    go_ret2
    exact post_no HOF.out (unhide HB1)
  · refine (rvalid_b ts _ hv _ A cp (by unfold maxLen; omega) (unhide HA)).mono ?_
    rintro e w1 ⟨rfl, hb1⟩
    have HB1 := hide hb1
    have HV := Lib.hid hv
    have hlen := valT_len hv
    clear hb1 hv
    by_cases hc : 0 ≤ c ∧ c ≤ 7
    · obtain ⟨h0, h7⟩ := hc
      go_wp2_with fail
      go_loopw [6, 7] (fun v i wr => ∃ j : Nat, i = .int .i64 j ∧ j ≤ ts.length ∧ Hid (∀ u ∈ ts.take j, perm u.1 c = true) ∧ Hid (wr.ownsRow w.heap.size 59 2 v (accN ts c j).length ((accN ts c j).flatMap (nq c))) ∧ Hid (Below w.heap.size w wr)) (fun _ i _ => ts.length - (intOf i).toNat)
      case atStart => exact ⟨0, rfl, by omega, by intro u hu; simp at hu, by have h : accN ts c 0 = [] := (by unfold accN; split <;> rfl); rw [h]; exact World.ownsRow_nil _ _ _ _, unhide HB1⟩
      case round =>
        obtain ⟨j, rfl, hj, hP, hO, hB⟩ := hrel
        obtain ⟨A3, c3, rfl⟩ := owns_form hO.out
        obtain ⟨wo, hwo⟩ : ∃ x, x = wr := ⟨_, rfl⟩
        subst hwo
        have hal := accN_len ts c j
        by_cases hlt : j < ts.length
        · obtain ⟨t, ht⟩ : ∃ t, ts[j]? = some t := ⟨ts[j], List.getElem?_eq_getElem hlt⟩
          obtain ⟨b, off, rfl, hb, hcell⟩ := ((unhide HA).below hB.out).elem nd_len ht (by decide)
          have x0 := hcell 0 _ rfl
          have x1 := hcell 1 _ rfl
          have HT := Lib.hid ht
          obtain ⟨k, num, kids⟩ := t
          simp only [Nat.add_zero] at x0 x1
          have HPB := Lib.hid (perm_bits k c h0 h7)
          clear hcell ht
          go_wp2_with fail
          go_loopw [8] (fun bv wi => ∃ e : Nat, bv = .int .i64 (2 ^ e : Int) ∧ e ≤ 3 ∧ (1 ≤ e → okB k c 1 = true) ∧ (2 ≤ e → okB k c 2 = true) ∧ (3 ≤ e → okB k c 4 = true) ∧ wi = wo) (fun bv _ => 8 - (intOf bv).toNat)
          case atStart => exact ⟨0, rfl, by omega, by omega, by omega, by omega, rfl⟩
          case round =>
            obtain ⟨e, rfl, he, e1, e2, e3, rfl⟩ := hrel
            have hee : e = 0 ∨ e = 1 ∨ e = 2 ∨ e = 3 := by omega
            rcases hee with rfl | rfl | rfl | rfl
            · cases hz : (bits .and .i64 c 1 == 0)
              · have hz2 : (bits .and .i64 c 1 != 0) = true := by unfold bne; rw [hz]; rfl
                simp only [Int.reducePow]
                go_wp2_with fail
                refine (class_any k 1 (by simp) _).mono ?_
                rintro e9 w9 ⟨rfl, rfl⟩
                cases hcl : cls k 1
                · have hpf : perm k c = false := by rw [HPB.out]; have : okB k c 1 = false := (by unfold okB; rw [hz, hcl]; rfl); rw [this]; simp
                  have HOF := Lib.hid (okN_perm (c := c) (List.mem_of_getElem? HT.out) hpf)
                  go_wp2_with fail
                  go_ret2
                  exact post_no HOF.out hB.out
                · have HOK : Hid (okB k c 1 = true) := Lib.hid (by unfold okB; rw [hcl]; simp)
                  go_wp2_with fail
                  go_roundw
                  case rel => exact ⟨1, by simp, by omega, fun _ => HOK.out, by omega, by omega, trivial⟩
                  case measure => simp [intOf]
              · have HOK : Hid (okB k c 1 = true) := Lib.hid (by unfold okB; rw [hz]; rfl)
                have hz2 : (bits .and .i64 c 1 != 0) = false := by unfold bne; rw [hz]; rfl
                simp only [Int.reducePow]
                go_wp2_with fail
                go_roundw
                case rel => exact ⟨1, by simp, by omega, fun _ => HOK.out, by omega, by omega, trivial⟩
                case measure => simp [intOf]
            · cases hz : (bits .and .i64 c 2 == 0)
              · have hz2 : (bits .and .i64 c 2 != 0) = true := by unfold bne; rw [hz]; rfl
                simp only [Int.reducePow]
                go_wp2_with fail
                refine (class_any k 2 (by simp) _).mono ?_
                rintro e9 w9 ⟨rfl, rfl⟩
                cases hcl : cls k 2
                · have hpf : perm k c = false := by rw [HPB.out]; have : okB k c 2 = false := (by unfold okB; rw [hz, hcl]; rfl); rw [this]; simp
                  have HOF := Lib.hid (okN_perm (c := c) (List.mem_of_getElem? HT.out) hpf)
                  go_wp2_with fail
                  go_ret2
                  exact post_no HOF.out hB.out
                · have HOK : Hid (okB k c 2 = true) := Lib.hid (by unfold okB; rw [hcl]; simp)
                  go_wp2_with fail
                  go_roundw
                  case rel => exact ⟨2, by simp, by omega, fun _ => e1 (by omega), fun _ => HOK.out, by omega, trivial⟩
                  case measure => simp [intOf]
              · have HOK : Hid (okB k c 2 = true) := Lib.hid (by unfold okB; rw [hz]; rfl)
                have hz2 : (bits .and .i64 c 2 != 0) = false := by unfold bne; rw [hz]; rfl
                simp only [Int.reducePow]
                go_wp2_with fail
                go_roundw
                case rel => exact ⟨2, by simp, by omega, fun _ => e1 (by omega), fun _ => HOK.out, by omega, trivial⟩
                case measure => simp [intOf]
            · cases hz : (bits .and .i64 c 4 == 0)
              · have hz2 : (bits .and .i64 c 4 != 0) = true := by unfold bne; rw [hz]; rfl
                simp only [Int.reducePow]
                go_wp2_with fail
                refine (class_any k 4 (by simp) _).mono ?_
                rintro e9 w9 ⟨rfl, rfl⟩
                cases hcl : cls k 4
                · have hpf : perm k c = false := by rw [HPB.out]; have : okB k c 4 = false := (by unfold okB; rw [hz, hcl]; rfl); rw [this]; simp
                  have HOF := Lib.hid (okN_perm (c := c) (List.mem_of_getElem? HT.out) hpf)
                  go_wp2_with fail
                  go_ret2
                  exact post_no HOF.out hB.out
                · have HOK : Hid (okB k c 4 = true) := Lib.hid (by unfold okB; rw [hcl]; simp)
                  go_wp2_with fail
                  go_roundw
                  case rel => exact ⟨3, by simp, by omega, fun _ => e1 (by omega), fun _ => e2 (by omega), fun _ => HOK.out, trivial⟩
                  case measure => simp [intOf]
              · have HOK : Hid (okB k c 4 = true) := Lib.hid (by unfold okB; rw [hz]; rfl)
                have hz2 : (bits .and .i64 c 4 != 0) = false := by unfold bne; rw [hz]; rfl
                simp only [Int.reducePow]
                go_wp2_with fail
                go_roundw
                case rel => exact ⟨3, by simp, by omega, fun _ => e1 (by omega), fun _ => e2 (by omega), fun _ => HOK.out, trivial⟩
                case measure => simp [intOf]
            · have hpt : perm k c = true := by rw [HPB.out, e1 (by omega), e2 (by omega), e3 (by omega)]; rfl
              have HPS := Lib.hid (all_perm_step hP.out HT.out hpt)
              clear hpt
              simp only [Int.reducePow]
              by_cases hk : k = 1
              · subst hk
                by_cases hc0 : c = 0
                · subst hc0
                  have HAC := Lib.hid (accN_not (c := 0) HT.out (.inr rfl))
                  go_wp2_with fail
                  go_roundw
                  case rel => exact ⟨j + 1, by go_num, by omega, HPS.out, by rw [HAC.out]; exact hO.out, hB.out⟩
                  case measure => simp [intOf]; omega
                · have HAC := Lib.hid (accN_var HT.out hc0)
                  have hcp : 0 < c := by omega
                  go_wp2_with fail
                  refine (need_any _ A3 (accN ts c j).length c3 (accN ts c j) num c rfl (by omega) h0 h7 (InC.own hO.out)).mono ?_
                  rintro e9 w9 ⟨v9, rfl, hO9, hb9⟩
                  rw [← HAC.out] at hO9
                  have HO9 := hide (owns_base hO9 hB.out.size)
                  have HB9 := hide (hB.out.trans (hb9.mono hB.out.size))
                  clear hO9 hb9
                  go_wp2_with fail
                  go_roundw
                  case rel => exact ⟨j + 1, by go_num, by omega, HPS.out, unhide HO9, unhide HB9⟩
                  case measure => simp [intOf]; omega
              · have HAC := Lib.hid (accN_not (c := c) HT.out (.inl hk))
                have g1 : (k == 1) = false := beq_eq_false_iff_ne.2 hk
                clear hk
                go_wp2_with fail
                go_roundw
                case rel => exact ⟨j + 1, by go_num, by omega, HPS.out, by rw [HAC.out]; exact hO.out, hB.out⟩
                case measure => simp [intOf]; omega
        · have hjn : ts.take j = ts := List.take_of_length_le (by omega)
          rw [hjn] at hP
          have HOT := Lib.hid (okN_true ⟨h0, h7⟩ HV.out hP.out)
          have HRS := Lib.hid (accN_all HOT.out (j := j) (by omega))
          clear hjn hP
          go_wp2_with fail
          go_ret2
          exact post_yes HOT.out HRS.out hO.out hB.out
    · have HOF := Lib.hid (okN_class (ts := ts) hc)
      by_cases h0 : c < 0
      · clear hc
        go_wp2_with fail
        go_ret2
        exact post_no HOF.out (unhide HB1)
      · have h7 : 7 < c := by omega
        clear hc
        go_wp2_with fail
        go_ret2
        exact post_no HOF.out (unhide HB1)

set_option maxRecDepth 100000 in
set_option maxHeartbeats 1600000 in
theorem equal_needs (q : Int) (l : List Int) (n : Nat) (hn : n = l.length) (hm : n ≤ 262144) (A1 A2 : Option Addr) (c1 c2 : Nat) (w : World) (h1 : InC w A1 (l.flatMap (nq q))) (h2 : InC w A2 (l.flatMap (nq q))) :
    Calls Tryd.prog 39 #[.slice A1 n c1, .slice A2 n c2] w fun e w' => e = .returned (.bool true) ∧ ∃ m, w' = w.drewN m := by
  have H1 := hide h1
  have H2 := hide h2
  have HN := Lib.hid hn
  clear h1 h2 hn
  go_enter Tryd.func39, Tryd.ntmps39
  go_wp2_with fail
  go_loopw [5] (fun t wr => ∃ k : Nat, k ≤ n ∧ t = .int .i64 k ∧ Hid (∃ m, wr = w.drewN m)) (fun t _ => n - (intOf t).toNat)
  case atStart => exact ⟨0, by omega, rfl, 0, rfl⟩
  case round =>
    obtain ⟨k, hk, rfl, hW⟩ := hrel
    obtain ⟨m, rfl⟩ := hW
    by_cases hlt : k < n
    · obtain ⟨t, ht⟩ : ∃ t, l[k]? = some t := by
        have : k < l.length := by rw [← HN.out]; exact hlt
        exact ⟨l[k], List.getElem?_eq_getElem this⟩
      obtain ⟨b1, o1, rfl, hb1, hc1⟩ := (unhide H1).elem (nq_len q) ht (by decide)
      obtain ⟨b2, o2, rfl, hb2, hc2⟩ := (unhide H2).elem (nq_len q) ht (by decide)
      have x0 := hc1 0 _ rfl
      have x1 := hc1 1 _ rfl
      have y0 := hc2 0 _ rfl
      have y1 := hc2 1 _ rfl
      simp only [Nat.add_zero] at x0 y0 x1 y1
      clear ht hc1 hc2
      go_wp2
      go_quiet (fail)
      go_wp2
      go_roundw
      case rel => exact ⟨k + 1, by omega, by go_num, _, rfl⟩
      case measure => simp [intOf]; omega
    · go_wp2
      go_ret
      exact ⟨rfl, m, rfl⟩

end Go.Proofs.YtgdmmkgdnfkadaaDoor
