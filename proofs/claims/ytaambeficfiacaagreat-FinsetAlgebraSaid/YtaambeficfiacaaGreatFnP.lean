/- FinsetAlgebra returns true: union, intersection and difference of small sets obey the laws of Boolean algebra. No conditions but that a slice of numbers has a length. -/
import Derived.Test.YtaambeficfiacaaGreatFnO
namespace Go.Proofs.YtaambeficfiacaaGreat
open Go Go.RowKit VM

set_option linter.unusedSimpArgs false in
set_option maxRecDepth 100000 in
set_option maxHeartbeats 12800000 in
theorem finsetAlgebra_any (a0 : Option Addr) (n0 c0 : Nat) (h0 : n0 ≤ maxLen) (w : World) (hI0 : InInts w a0 n0) :
    Calls Tryz.prog 6 #[.slice a0 n0 c0] w fun e w' => e = .returned (.bool true) ∧ Below w.heap.size w w' := by
  have HC0 := hide (CSt.start (c := c0) hI0)
  have HB0 : Hid (Below w.heap.size w (w.alloc (.cells #[.slice a0 n0 c0, .int .i64 0] 56))) := hide ((Below.refl _ _).alloc (Nat.le_refl _) _)
  have HN0 := Lib.hid h0
  clear hI0 h0
  go_enter Tryz.func6, Tryz.ntmps6
  go_wp2_with fail
  refine (new_cho w a0 n0 c0).mono ?_
  rintro e w1 ⟨rfl, rfl⟩
  generalize w.alloc (.cells #[.slice a0 n0 c0, .int .i64 0] 56) = w1 at *
  obtain ⟨g0, hg0⟩ : ∃ g0, g0 = w.heap.size := ⟨_, rfl⟩
  rw [← hg0] at HC0 ⊢
  have hg0l : w.heap.size ≤ g0 := Nat.le_of_eq hg0.symm
  have HW : Hid (g0 = w.heap.size) := Lib.hid hg0
  clear hg0
  go_wp2_with fail
  refine (ints_st w1 g0 a0 n0 c0 (unhide HC0) HN0.out).mono ?_
  rintro e w2 ⟨X, rfl, hX, -, hC2, hG2⟩
  have HB2 := hide (below_grown (unhide HB0) hG2 hg0l (Nat.le_refl _))
  have HC2 := hide hC2
  clear hC2 hG2 HC0 HB0
  go_wp2_with fail
  refine (ints_st w2 g0 a0 n0 c0 (unhide HC2) HN0.out).mono ?_
  rintro e w3 ⟨Y, rfl, hY, -, hC3, hG3⟩
  have HB3 := hide (below_grown (unhide HB2) hG3 hg0l (Nat.le_refl _))
  have HC3 := hide hC3
  clear hC3 hG3 HC2 HB2
  go_wp2_with fail
  refine (ints_st w3 g0 a0 n0 c0 (unhide HC3) HN0.out).mono ?_
  rintro e w4 ⟨Z, rfl, hZ, -, hC4, hG4⟩
  have HB4 := hide (below_grown (unhide HB3) hG4 hg0l (Nat.le_refl _))
  clear hC4 hG4 HC3 HB3
  -- what each call returns
  obtain ⟨XY, hXYd⟩ : ∃ l, l = mrg (fun p q => p || q) (sortM X) (sortM Y) := ⟨_, rfl⟩
  obtain ⟨YX, hYXd⟩ : ∃ l, l = mrg (fun p q => p || q) (sortM Y) (sortM X) := ⟨_, rfl⟩
  obtain ⟨XZ, hXZd⟩ : ∃ l, l = mrg (fun p q => p && q) (sortM X) (sortM Z) := ⟨_, rfl⟩
  obtain ⟨YZ, hYZd⟩ : ∃ l, l = mrg (fun p q => p && q) (sortM Y) (sortM Z) := ⟨_, rfl⟩
  obtain ⟨D, hDd⟩ : ∃ l, l = mrg (fun p q => p && !q) (sortM X) (sortM Z) := ⟨_, rfl⟩
  have hXY : SmallL XY := by rw [hXYd]; exact small_mrg _ (small_sort hX) (small_sort hY)
  have hYX : SmallL YX := by rw [hYXd]; exact small_mrg _ (small_sort hY) (small_sort hX)
  have hXZ : SmallL XZ := by rw [hXZd]; exact small_mrg _ (small_sort hX) (small_sort hZ)
  have hYZ : SmallL YZ := by rw [hYZd]; exact small_mrg _ (small_sort hY) (small_sort hZ)
  have hD : SmallL D := by rw [hDd]; exact small_mrg _ (small_sort hX) (small_sort hZ)
  obtain ⟨A, hAd⟩ : ∃ l, l = mrg (fun p q => p && q) (sortM XY) (sortM Z) := ⟨_, rfl⟩
  obtain ⟨B, hBd⟩ : ∃ l, l = mrg (fun p q => p || q) (sortM XZ) (sortM YZ) := ⟨_, rfl⟩
  obtain ⟨K, hKd⟩ : ∃ l, l = mrg (fun p q => p || q) (sortM D) (sortM XZ) := ⟨_, rfl⟩
  have c1 := Lib.hid (fun w => pUnion_any (setM X) (setM Y) (small_size hX) (small_size hY) w)
  have c2 := Lib.hid (fun w => pUnion_any (setM Y) (setM X) (small_size hY) (small_size hX) w)
  have c3 := Lib.hid (fun w => pInter_any (setM XY) (setM Z) (small_size hXY) (small_size hZ) w)
  have c4 := Lib.hid (fun w => pInter_any (setM X) (setM Z) (small_size hX) (small_size hZ) w)
  have c5 := Lib.hid (fun w => pInter_any (setM Y) (setM Z) (small_size hY) (small_size hZ) w)
  have c6 := Lib.hid (fun w => pUnion_any (setM XZ) (setM YZ) (small_size hXZ) (small_size hYZ) w)
  have c7 := Lib.hid (fun w => pDiff_any (setM X) (setM Z) (small_size hX) (small_size hZ) w)
  have c8 := Lib.hid (fun w => pUnion_any (setM D) (setM XZ) (small_size hD) (small_size hXZ) w)
  rw [small_comb _ hX hY, ← hXYd] at c1
  rw [small_comb _ hY hX, ← hYXd] at c2
  rw [small_comb _ hXY hZ, ← hAd] at c3
  rw [small_comb _ hX hZ, ← hXZd] at c4
  rw [small_comb _ hY hZ, ← hYZd] at c5
  rw [small_comb _ hXZ hYZ, ← hBd] at c6
  rw [small_comb _ hX hZ, ← hDd] at c7
  rw [small_comb _ hD hXZ, ← hKd] at c8
  -- the laws
  have e1 : setM XY = setM YX := setM_eq fun u => by
    rw [hXYd, hYXd, mrg_mem, mrg_mem]
    cases hasB u (sortM X) <;> cases hasB u (sortM Y) <;> simp [or_comm]
  have e2 : setM A = setM B := setM_eq fun u => by
    rw [hAd, hBd, hXYd, hXZd, hYZd]
    simp only [mrg_mem, sortM_mem, hasB_iff, Bool.and_eq_true, Bool.or_eq_true]
    constructor
    · rintro ⟨_, ⟨⟨h | h, _⟩, hz⟩⟩
      · exact ⟨.inl ⟨.inl h, h, hz⟩, .inl ⟨.inl h, h, hz⟩⟩
      · exact ⟨.inr ⟨.inl h, h, hz⟩, .inr ⟨.inl h, h, hz⟩⟩
    · rintro ⟨⟨_, h, hz⟩ | ⟨_, h, hz⟩, _⟩
      · exact ⟨.inr hz, ⟨.inl h, .inl h⟩, hz⟩
      · exact ⟨.inr hz, ⟨.inr h, .inr h⟩, hz⟩
  have e3 : setM K = setM X := setM_eq fun u => by
    rw [hKd, hDd, hXZd]
    simp only [mrg_mem, sortM_mem, hasB_iff, Bool.and_eq_true, Bool.or_eq_true, Bool.not_eq_true']
    constructor
    · rintro ⟨⟨_, h, _⟩ | ⟨_, h, _⟩, _⟩
      · exact h
      · exact h
    · intro h
      cases hz : hasB u (sortM Z) with
      | true =>
        have hz2 := sortM_mem.1 (hasB_iff.1 hz)
        exact ⟨.inr ⟨.inl h, h, hz2⟩, .inr ⟨.inl h, h, hz2⟩⟩
      | false => exact ⟨.inl ⟨.inl h, h, rfl⟩, .inl ⟨.inl h, h, rfl⟩⟩
  have q1 : ((setM XY).toList == (setM YX).toList) = true := by rw [e1]; exact tl_self _
  have q2 : ((setM A).toList == (setM B).toList) = true := by rw [e2]; exact tl_self _
  have q3 : ((setM K).toList == (setM X).toList) = true := by rw [e3]; exact tl_self _
  clear e1 e2 e3 hXYd hYXd hXZd hYZd hDd hAd hBd hKd hXY hYX hXZ hYZ hD hX hY hZ
  unfold RetV at c1 c2 c3 c4 c5 c6 c7 c8
  generalize setM XY = xy at *
  generalize setM YX = yx at *
  generalize setM XZ = xz at *
  generalize setM YZ = yz at *
  generalize setM A = ra at *
  generalize setM B = rb at *
  generalize setM D = rd at *
  generalize setM K = rk at *
  generalize setM X = x at *
  generalize setM Y = y at *
  generalize setM Z = z at *
  go_wp2_with fail
  refine (c1.out _).mono ?_
  rintro e w5 ⟨rfl, hb5⟩
  have HB5 := hide ((unhide HB4).trans (hb5.mono (unhide HB4).size))
  clear hb5 HB4
  go_wp2_with fail
  refine (c2.out _).mono ?_
  rintro e w6 ⟨rfl, hb6⟩
  have HB6 := hide ((unhide HB5).trans (hb6.mono (unhide HB5).size))
  clear hb6 HB5
  go_wp2_with fail
  refine (c3.out _).mono ?_
  rintro e w7 ⟨rfl, hb7⟩
  have HB7 := hide ((unhide HB6).trans (hb7.mono (unhide HB6).size))
  clear hb7 HB6
  go_wp2_with fail
  refine (c4.out _).mono ?_
  rintro e w8 ⟨rfl, hb8⟩
  have HB8 := hide ((unhide HB7).trans (hb8.mono (unhide HB7).size))
  clear hb8 HB7
  go_wp2_with fail
  refine (c5.out _).mono ?_
  rintro e w9 ⟨rfl, hb9⟩
  have HB9 := hide ((unhide HB8).trans (hb9.mono (unhide HB8).size))
  clear hb9 HB8
  go_wp2_with fail
  refine (c6.out _).mono ?_
  rintro e w10 ⟨rfl, hb10⟩
  have HB10 := hide ((unhide HB9).trans (hb10.mono (unhide HB9).size))
  clear hb10 HB9
  go_wp2_with fail
  refine (c7.out _).mono ?_
  rintro e w11 ⟨rfl, hb11⟩
  have HB11 := hide ((unhide HB10).trans (hb11.mono (unhide HB10).size))
  clear hb11 HB10
  go_wp2_with fail
  refine (c8.out _).mono ?_
  rintro e w12 ⟨rfl, hb12⟩
  have HB12 := hide ((unhide HB11).trans (hb12.mono (unhide HB11).size))
  clear hb12 HB11
  go_wp2_with fail
  refine (fawake_any _).mono ?_
  rintro e w13 ⟨rfl, hb13⟩
  have HB13 := hide ((unhide HB12).trans (hb13.mono (unhide HB12).size))
  clear hb13 HB12
  go_wp2_with fail
  go_ret
  exact ⟨rfl, unhide HB13⟩

end Go.Proofs.YtaambeficfiacaaGreat
