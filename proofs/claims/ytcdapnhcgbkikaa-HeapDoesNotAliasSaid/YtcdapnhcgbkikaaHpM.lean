/- HeapDoesNotAlias: the law. Conditions: its argument is a byte. -/
import Derived.Test.YtcdapnhcgbkikaaHpK
namespace Go.Proofs.Ytcdapnhcgbkikaa
open Go.RowKit

def eqL (a b : List Int) : Bool := decide (a = b)
set_option linter.unusedSimpArgs false in
set_option maxRecDepth 100000 in
set_option maxHeartbeats 6400000 in
theorem equal_any (l k : List Int) (A B : Option Addr) (n c m d : Nat) (w : World) (hn : n = l.length) (hm : m = k.length) (hl : n ≤ 8796093022208) (hl2 : m ≤ 8796093022208) (hA : InC w A (intV l)) (hB : InC w B (intV k)) :
    Calls Try.prog 21 #[.slice A n c, .slice B m d] w fun e w' => e = .returned (.bool (eqL l k)) ∧ Below w.heap.size w w' := by
  have HN := Lib.hid hn
  have HM := Lib.hid hm
  have HA := hide hA
  have HB := hide hB
  clear hA hB hn hm
  by_cases hnm : n = m
  · have gq : ((n : Int) != (m : Int)) = false := by rw [hnm]; simp
    obtain ⟨b, hb⟩ : ∃ b, Hid (eqL l k = b) := ⟨_, Lib.hid rfl⟩
    have HNM := Lib.hid hnm
    rw [hb.out]
    subst hnm
    clear gq
    have gq : ((n : Int) != (n : Int)) = false := by simp
    go_enter Try.func21, Try.ntmps21
    go_wp2_with fail
    go_loopw [5] (fun iv wr => ∃ j : Nat, iv = .int .i64 j ∧ j ≤ n ∧ Hid (l.take j = k.take j) ∧ Hid (Below w.heap.size w wr)) (fun iv _ => n - (intOf iv).toNat)
    case atStart => exact ⟨0, rfl, by omega, Lib.hid rfl, Lib.hid (Below.refl _ _)⟩
    case round =>
      obtain ⟨j, rfl, hj, hT, hW⟩ := hrel
      by_cases hjn : j < n
      · obtain ⟨x, hx⟩ : ∃ z, l[j]? = some z := ⟨_, List.getElem?_eq_getElem (by rw [← HN.out]; exact hjn)⟩
        obtain ⟨y, hy⟩ : ∃ z, k[j]? = some z := ⟨_, List.getElem?_eq_getElem (by rw [← HM.out]; exact hjn)⟩
        obtain ⟨b1, o1, e1, hb1, x0⟩ := int_at ((unhide HA).below hW.out) hx
        obtain ⟨b2, o2, e2, hb2, y0⟩ := int_at ((unhide HB).below hW.out) hy
        subst e1 e2
        have HX := Lib.hid hx
        have HY := Lib.hid hy
        clear hx hy
        have i0 : (0 : Int) ≤ (j : Int) := by omega
        have i1 : (j : Int) < (n : Int) := by omega
        by_cases hxy : x = y
        · subst hxy
          have gx : (x != x) = false := by simp
          have HT2 : Hid (l.take (j + 1) = k.take (j + 1)) := Lib.hid (by rw [List.take_add_one, List.take_add_one, HX.out, HY.out, hT.out])
          go_wp2_with fail
          go_quiet (fail)
          have HW2 := hide (below_drewN hW.out nq)
          go_wp2_with fail
          go_roundw
          case rel => exact ⟨j + 1, by go_num, by omega, HT2, Lib.hid (unhide HW2)⟩
          case measure => simp [intOf]; omega
        · have gx : (x != y) = true := by simpa using hxy
          have gx0 : (x == y) = false := beq_eq_false_iff_ne.2 hxy
          have HQ : Hid (b = false) := Lib.hid (by
            rw [← hb.out]
            unfold eqL
            refine decide_eq_false (fun e => hxy ?_)
            have := HX.out
            rw [e, HY.out] at this
            exact (Option.some.inj this).symm)
          clear hxy
          go_wp2_with fail
          go_quiet (fail)
          have HW2 := hide (below_drewN hW.out nq)
          go_wp2_with fail
          go_ret
          exact ⟨by rw [HQ.out]; rfl, unhide HW2⟩
      · have HQ : Hid (b = true) := Lib.hid (by
          rw [← hb.out]
          unfold eqL
          refine decide_eq_true ?_
          have := hT.out
          rwa [List.take_of_length_le (by rw [← HN.out]; omega), List.take_of_length_le (by rw [← HM.out]; omega)] at this)
        go_wp2_with fail
        go_ret
        exact ⟨by rw [HQ.out]; rfl, hW.out⟩
  · have gq : ((n : Int) != (m : Int)) = true := by simp; omega
    have gq0 : ((n : Int) == (m : Int)) = false := beq_eq_false_iff_ne.2 (by omega)
    have HE : Hid (eqL l k = false) := Lib.hid (by unfold eqL; exact decide_eq_false (fun e => hnm (by rw [HN.out, HM.out, e])))
    rw [HE.out]
    clear hnm
    go_enter Try.func21, Try.ntmps21
    go_wp2_with fail
    go_ret
    exact ⟨rfl, Below.refl _ _⟩

/-- new blocks beside the heap -/
theorem LE.toX {w0 w w' : World} {P : Nat → Prop} {g : Nat} {most : Int} {M : List Cel} {Fn : Nat → Nat} (h : LE w0 w P g most M Fn) (hb : Below w.heap.size w w') : LE w0 w' (fun k => P k ∨ (w.heap.size ≤ k ∧ k < w'.heap.size)) g most M Fn := by
  obtain ⟨S, h, hp⟩ := h
  refine ⟨S, h.to hb, fun k q => ?_⟩
  rcases q with q | q
  · exact (hp k q).same (keep_below hb)
  · exact ⟨q.2, fun s => by have := h.ph.lt _ s; omega⟩
theorem z2_row : intV [0, 0] = [.int .i64 0, .int .i64 0] := rfl
set_option maxRecDepth 100000 in
set_option maxHeartbeats 6400000 in
theorem spare_any (b0 : Nat) (w : World) (hA : InC w (some ⟨b0, 0, none⟩) (intV [0, 0])) :
    Calls Try.prog 23 #[.slice (some ⟨b0, 0, none⟩) 2 2, .int .i64 77] w fun e w' =>
      ∃ b c, e = .returned (.slice (some ⟨b, 0, none⟩) 2 5) ∧ w'.ownsRow w.heap.size 3 1 (.slice (some ⟨b, 0, none⟩) 5 c) 5 (intV [0, 0, 77, 77, 77]) ∧ Below w.heap.size w w' := by
  obtain ⟨i0, hi0, hiz0, hiz1, hiz2⟩ := info_parts int_infos
  have HA := hide hA
  clear hA
  go_enter Try.func23, Try.ntmps23
  go_wp2_with (first
    | (at_builtin; refine wpList_app _ rfl _ _ 41 rfl w.heap.size 3 i0 _ 1 8 Try.underlying41 hi0 hiz0 hiz1 hiz2 rfl (by decide) _ 2 (intV [0, 0]) rfl ((unhide HO1).alloc _) _ 3 3 (intV [77, 77, 77]) rfl rfl (new_in w1 3 #[.int .i64 77, .int .i64 77, .int .i64 77]) (intV_one _) (by unfold maxLen; omega) (by omega) (by simp only [World.size_alloc]; have := (unhide HB1).size; omega) ?_; intro v2 w2 hown2 hgrow2 _; obtain ⟨b2, c2, hv2, hb2, hlt2, hnc2, _⟩ := owns_cell hown2 (by omega); subst hv2; have HO2 := hide hown2; have HB2 := hide (below_app ((unhide HB1).alloc (unhide HB1).size (.cells #[.int .i64 77, .int .i64 77, .int .i64 77] 3)) ((unhide HO1).alloc _) hgrow2); clear hown2 hgrow2)
    | (at_builtin; refine wpList_app _ rfl _ _ 41 rfl w.heap.size 3 i0 _ 1 8 Try.underlying41 hi0 hiz0 hiz1 hiz2 rfl (by decide) _ 0 [] rfl (World.ownsRow_lit w #[] 0 (Nat.le_refl _) (by unfold maxLen; omega) rfl) _ 2 2 (intV [0, 0]) rfl rfl ((unhide HA).alloc _) (intV_one _) (by unfold maxLen; omega) (by omega) (by simp) ?_; intro v1 w1 hown1 hgrow1 _; have HB1 := hide (below_app ((Below.refl w.heap.size w).alloc (Nat.le_refl _) _) (World.ownsRow_lit (base := w.heap.size) (e := 3) (size := 1) w #[] 0 (Nat.le_refl _) (by unfold maxLen; omega) rfl) hgrow1); rw [Nat.zero_add, List.nil_append] at hown1; obtain ⟨A1, c1, hv1⟩ := owns_form hown1; subst hv1; have HO1 := hide hown1; clear hown1 hgrow1))
  go_ret
  exact ⟨b2, c2, rfl, unhide HO2, unhide HB2⟩
set_option linter.unusedSimpArgs false in
set_option maxRecDepth 100000 in
set_option maxHeartbeats 6400000 in
theorem unchanged_any (b b0 : Nat) (w : World) (hA : InC w (some ⟨b, 0, none⟩) (intV [0, 0, 77, 77, 77])) (hB : InC w (some ⟨b0, 0, none⟩) (intV [0, 0])) :
    Calls Try.prog 24 #[.slice (some ⟨b, 0, none⟩) 2 5, .slice (some ⟨b0, 0, none⟩) 2 2, .int .i64 77] w fun e w' => e = .returned (.bool true) ∧ Below w.heap.size w w' := by
  have HA := hide hA
  have HB := hide hB
  have HA2 := hide (hA.take 2)
  clear hA hB
  go_enter Try.func24, Try.ntmps24
  go_wp2_with fail
  refine (equal_any [0, 0] [0, 0] (some ⟨b, 0, none⟩) (some ⟨b0, 0, none⟩) 2 5 2 2 w rfl rfl (by decide) (by decide) (unhide HA2) (unhide HB)).mono ?_
  rintro e w1 ⟨rfl, hb1⟩
  rw [show eqL [0, 0] [0, 0] = true from by decide]
  have HW1 := hide hb1
  clear hb1
  go_wp2_with fail
  go_loopw [8] (fun iv wr => ∃ j : Nat, iv = .int .i64 j ∧ 2 ≤ j ∧ j ≤ 5 ∧ wr = w1) (fun iv _ => 5 - (intOf iv).toNat)
  case atStart => exact ⟨2, rfl, by omega, by omega, rfl⟩
  case round =>
    obtain ⟨j, rfl, hj2, hj, rfl⟩ := hrel
    by_cases hjn : j < 5
    · obtain ⟨x, hx⟩ : ∃ z, ([0, 0, 77, 77, 77] : List Int)[j]? = some z := ⟨_, List.getElem?_eq_getElem (by simp; omega)⟩
      have hx7 : x = 77 := by
        have : j = 2 ∨ j = 3 ∨ j = 4 := by omega
        rcases this with rfl | rfl | rfl <;> (simp at hx; exact hx.symm)
      subst hx7
      obtain ⟨b1, o1, e1, hb1, x0⟩ := int_at ((unhide HA).below (unhide HW1)) hx
      injection e1 with e1
      injection e1 with e1 e2
      subst e1 e2
      have i0 : (0 : Int) ≤ (j : Int) := by omega
      have i1 : (j : Int) < 5 := by omega
      rw [Nat.zero_add] at x0
      have gd : decide ((j : Int) < 5) = true := decide_eq_true i1
      clear hx
      go_wp2_with fail
      go_roundw
      case rel => exact ⟨j + 1, by go_num, by omega, by omega, trivial⟩
      case measure => simp [intOf]; omega
    · obtain rfl : j = 5 := by omega
      go_wp2_with fail
      go_ret
      exact ⟨rfl, unhide HW1⟩
set_option linter.unusedSimpArgs false in
set_option maxRecDepth 100000 in
set_option maxHeartbeats 6400000 in
theorem heapDoesNotAlias_any (z : Int) (hz0 : 0 ≤ z) (hz1 : z ≤ 255) (w : World) : Calls Try.prog 7 #[.int .u8 z] w fun e w' => e = .returned (.bool true) ∧ Below w.heap.size w w' := by
  obtain ⟨g, hg⟩ : ∃ g, Hid (g = w.heap.size) := ⟨_, Lib.hid rfl⟩
  go_enter Try.func7, Try.ntmps7
  go_wp2_with fail
  refine (new_ok (most := 10) (by decide) w).mono ?_
  rintro e w1 ⟨rfl, h1⟩
  rw [← hg.out] at h1
  rw [← hg.out]
  have H1 := hide h1
  clear h1
  go_wp2_with fail
  refine (awake_any w1).mono ?_
  rintro e w2 ⟨rfl, hb2⟩
  have H2 := hide ((unhide H1).to hb2)
  clear hb2 H1
  go_wp2_with fail
  refine ((unhide H2).alloc0 (by decide) 4 z).mono ?_
  rintro e w3 ⟨he, h3, -⟩
  have hv : allocM 10 [] (4, z, []) = (0, 0, [(4, z, [])]) := by rfl
  rw [hv] at he h3
  subst he
  have H3 := hide (h3.add (.cells #[.int .i64 0, .int .i64 0] 3))
  have I3 := hide (new_in w3 3 #[.int .i64 0, .int .i64 0])
  clear h3 hv H2
  go_wp2_with fail
  refine (spare_any w3.heap.size _ (unhide I3)).mono ?_
  rintro e w4 ⟨b4, c4, rfl, ho4, hb4⟩
  have hl4 := ho4.lt b4 rfl
  have H4 := hide ((unhide H3).toX hb4)
  have O4 := hide (owns_base (b' := w.heap.size) ho4 (Nat.le_trans (unhide H3).below.size (Nat.le_refl _)))
  have H4' := hide ((unhide H4).mono (P' := fun k => k < g ∨ k = b4) (fun k q => by
    rcases q with q | q
    · exact .inl (.inl q)
    · subst q; exact .inr hl4))
  have hb4w : w.heap.size ≤ b4 := (unhide O4).lt b4 rfl |>.1
  clear ho4 hb4 I3 H3 hl4 H4
  go_wp2_with fail
  refine ((unhide H4').alloc (show 1 ≤ 65536 by decide) 4 0 [0, 0] (some ⟨b4, 0, none⟩) 2 5 rfl (by decide) ((InC.own (unhide O4)).take 2)).mono ?_
  rintro e w5 ⟨he, h5, k5⟩
  have hv : allocM 10 [(4, z, [])] (4, 0, [0, 0]) = (1, 0, [(4, z, []), (4, 0, [0, 0])]) := by rfl
  rw [hv] at he h5
  subst he
  have O5 := hide (owns_keep (unhide O4) k5 (fun b q => by injection q with q; exact .inr q.symm))
  have H5 := hide (h5.to ((Below.refl _ _).alloc (Nat.le_refl _) (.cells #[.int .i64 0, .int .i64 0] 3)))
  have O5a := hide ((unhide O5).alloc (.cells #[.int .i64 0, .int .i64 0] 3))
  have I5 := hide (new_in w5 3 #[.int .i64 0, .int .i64 0])
  clear h5 k5 hv H4' O4 O5
  go_wp2_with fail
  refine (unchanged_any b4 w5.heap.size _ (InC.own (unhide O5a)) (unhide I5)).mono ?_
  rintro e w6 ⟨rfl, hb6⟩
  have H6 := hide ((unhide H5).to hb6)
  have O6 := hide (owns_below (unhide O5a) hb6)
  have c6 := (unhide O6).cellAt 0 (by omega)
  change w6.cell? ⟨b4, 0, none⟩ = some (.int .i64 0) at c6
  have f6 := (unhide O6).frozenAt 0
  clear hb6 H5 O5a I5
  go_wp2_with fail
  have H7 := hide ((unhide H6).set_ (p := ⟨b4, 0, none⟩) (.inr rfl) hb4w (.int .i64 9))
  generalize w6.setCell ⟨b4, 0, none⟩ (.int .i64 9) = w7 at *
  clear H6 O6 c6 f6
  have HWF : Hid (WF [(4, z, []), (4, 0, [0, 0])]) := hide (WF.all rfl rfl)
  have HRD : Hid (readM [(4, z, []), (4, 0, [0, 0])] id 1 = ((4, 0, [0, 0]), 1, 0)) := Lib.hid rfl
  refine ((unhide H7).read (unhide HWF) 1).mono ?_
  rintro e w8 ⟨A8, c8, he, ho8, h8, -⟩
  rw [HRD.out] at he ho8 h8
  subst he
  change w8.ownsRow w7.heap.size 3 1 (.slice A8 2 c8) 2 (intV [0, 0]) at ho8
  obtain ⟨b8, c8', hv8, hb8, hl8, hn8, _⟩ := owns_cell ho8 (by omega)
  injection hv8 with hv8 _ hv9
  subst hv8 hv9
  have h8s := (unhide H7).below.size
  have h8w : w.heap.size ≤ b8 := by omega
  have H8 := hide ((h8.mono (P' := fun k => k = b8) (fun k q => .inr (by rw [q]; rfl))).add (.cells #[.int .i64 4, .int .i64 0, .slice (some ⟨b8, 0, none⟩) 2 c8] 43))
  have O8 := hide ((owns_base (b' := 0) ho8 (Nat.zero_le _)).alloc (.cells #[.int .i64 4, .int .i64 0, .slice (some ⟨b8, 0, none⟩) 2 c8] 43))
  have K8 := hide (Blk.new w8 43 #[.int .i64 4, .int .i64 0, .slice (some ⟨b8, 0, none⟩) 2 c8])
  obtain ⟨d8, hd8⟩ : ∃ b, Hid (b = w8.heap.size) := ⟨_, Lib.hid rfl⟩
  rw [← hd8.out] at H8 K8
  clear ho8 h8 H7 h8s
  have hl20 : ([0, 0] : List Int).length = 2 := rfl
  simp only [hl20]
  clear hl20
  go_wp2_with fail
  try simp only [← hd8.out]
  have I8 := new_in (w8.alloc (.cells #[.int .i64 4, .int .i64 0, .slice (some ⟨b8, 0, none⟩) 2 c8] 43)) 3 #[.int .i64 0, .int .i64 0]
  rw [World.size_alloc, ← hd8.out] at I8
  refine (equal_any [0, 0] [0, 0] (some ⟨b8, 0, none⟩) (some ⟨d8 + 1, 0, none⟩) 2 c8 2 2 _ rfl rfl (by decide) (by decide) ((InC.own (unhide O8)).alloc _) I8).mono ?_
  rintro e w9 ⟨rfl, hb9⟩
  rw [show eqL [0, 0] [0, 0] = true from by decide]
  have hbb := ((Below.refl _ _).alloc (Nat.le_refl _) (.cells #[.int .i64 0, .int .i64 0] 3) : Below (w8.alloc (.cells #[.int .i64 4, .int .i64 0, .slice (some ⟨b8, 0, none⟩) 2 c8] 43)).heap.size _ _)
  have hb89 := hbb.trans (hb9.mono hbb.size)
  have H9 := hide ((unhide H8).to hb89)
  have O9 := hide (owns_below (unhide O8) hb89)
  have K9 := hide ((unhide K8).below hb89 (unhide K8).lt)
  have e2 := (unhide K9).cell 2
  change w9.cell? ⟨d8, 2, none⟩ = some (.slice (some ⟨b8, 0, none⟩) 2 c8) at e2
  have q1 := (unhide O9).cellAt 1 (by omega)
  change w9.cell? ⟨b8, 1, none⟩ = some (.int .i64 0) at q1
  have q2 := (unhide O9).frozenAt 1
  clear I8 hb9 hbb hb89 H8 O8 K8
  go_wp2_with fail
  have H10 := hide (((unhide H9).set_ (p := ⟨b8, 1, none⟩) (.inl rfl) h8w (.int .i64 5)).mono (P' := fun _ => False) (fun k q => q.elim))
  generalize w9.setCell ⟨b8, 1, none⟩ (.int .i64 5) = w10 at *
  clear H9 O9 K9 e2 q1 q2
  refine ((unhide H10).read (unhide HWF) 1).mono ?_
  rintro e w11 ⟨A11, c11, he, ho11, h11, -⟩
  rw [HRD.out] at he ho11 h11
  subst he
  change w11.ownsRow w10.heap.size 3 1 (.slice A11 2 c11) 2 (intV [0, 0]) at ho11
  obtain ⟨b11, c11', hv11, hb11, hl11, hn11, _⟩ := owns_cell ho11 (by omega)
  injection hv11 with hv11 _ hv12
  subst hv11 hv12
  have H11 := hide (h11.to ((Below.refl _ _).alloc (Nat.le_refl _) (.cells #[.int .i64 4, .int .i64 0, .slice (some ⟨b11, 0, none⟩) 2 c11] 43)))
  have O11 := hide ((owns_base (b' := 0) ho11 (Nat.zero_le _)).alloc (.cells #[.int .i64 4, .int .i64 0, .slice (some ⟨b11, 0, none⟩) 2 c11] 43))
  clear ho11 h11 H10
  have hl20 : ([0, 0] : List Int).length = 2 := rfl
  simp only [hl20]
  clear hl20
  go_wp2_with fail
  have I11 := new_in (w11.alloc (.cells #[.int .i64 4, .int .i64 0, .slice (some ⟨b11, 0, none⟩) 2 c11] 43)) 3 #[.int .i64 0, .int .i64 0]
  rw [World.size_alloc] at I11
  refine (equal_any [0, 0] [0, 0] (some ⟨b11, 0, none⟩) (some ⟨w11.heap.size + 1, 0, none⟩) 2 c11 2 2 _ rfl rfl (by decide) (by decide) ((InC.own (unhide O11)).alloc _) I11).mono ?_
  rintro e w12 ⟨rfl, hb12⟩
  rw [show eqL [0, 0] [0, 0] = true from by decide]
  have hbb := ((Below.refl _ _).alloc (Nat.le_refl _) (.cells #[.int .i64 0, .int .i64 0] 3) : Below (w11.alloc (.cells #[.int .i64 4, .int .i64 0, .slice (some ⟨b11, 0, none⟩) 2 c11] 43)).heap.size _ _)
  have H12 := hide ((unhide H11).to (hbb.trans (hb12.mono hbb.size)))
  clear hbb hb12 I11
  go_wp2_with fail
  go_ret
  exact ⟨rfl, (unhide H12).below⟩
end Go.Proofs.Ytcdapnhcgbkikaa
