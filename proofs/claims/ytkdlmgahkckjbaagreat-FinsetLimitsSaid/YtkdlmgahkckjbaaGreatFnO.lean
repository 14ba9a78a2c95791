/- awake of the statements about sets and maps. No conditions. -/
import Derived.Test.YtkdlmgahkckjbaaGreatFnN
namespace Go.Proofs.YtkdlmgahkckjbaaGreat
open Go.RowKit VM

theorem subM_small {l : List ByteArray} (h : SmallL l) (m : Nat) : SmallL (subM (sortM l) m) := fun s hs => small_sort h s ((subM_sub _ _).subset hs)
/-- the subsets of a small set -/
theorem small_subs {l : List ByteArray} (h : SmallL l) : bnd (subL (sortM l)) = (setM (subL (sortM l)), 0) ∧ (sortM (subL (sortM l))).length = 2 ^ (sortM l).length ∧ isK 5 (setM (subL (sortM l))) = true ∧ pt (setM (subL (sortM l))) = sortM (subL (sortM l)) := by
  have hm : ∀ s ∈ subL (sortM l), valB 2 s = true ∧ s ≠ ⟨#[]⟩ ∧ s.size ≤ 57 := fun s hs => by
    unfold subL at hs
    obtain ⟨m, _, rfl⟩ := List.mem_map.1 hs
    have hk := small_ok (subM_small h m)
    refine ⟨hk.1, hk.2, ?_⟩
    have h3 := (mkM_ne hk.2).2.2
    have h4 : setM (subM (sortM l) m) = encB 5 (sortM (subM (sortM l) m)) := h3
    rw [h4, encB_size]
    have := small_tot (subM_small h m)
    omega
  have hnd := subL_nodup (sortM_asc l) fun x hx => (hm x hx).2.1
  have hl6 := small_len h
  have hlen : (subL (sortM l)).length = 2 ^ (sortM l).length := by unfold subL; simp
  have h64 : 2 ^ (sortM l).length ≤ 64 := Nat.le_trans (Nat.pow_le_pow_right (by omega) hl6) (by decide)
  have hsl := sortM_nodup.2 hnd
  have ht := totB_bound (N := 57) (l := sortM (subL (sortM l))) fun s hs => (hm s (sortM_mem.1 hs)).2.2
  have hok := setM_ok (d := 2) (by decide) (l := subL (sortM l)) (fun s hs => (hm s hs).1) (by omega)
  refine ⟨?_, by omega, (made_set hok.2).1, (made_set hok.2).2.1⟩
  unfold bnd
  rw [if_neg]
  rintro (q | q)
  · omega
  · exact hok.2 q
theorem small_subsetM {l : List ByteArray} (h : SmallL l) : subsetM (setM l) = (setM (subL (sortM l)), 0) := by
  unfold subsetM
  rw [if_pos (small_set h).1, (small_set h).2, if_neg (by have := small_len h; omega), (small_subs h).1]
theorem bigI_empty : bigI (setM []) = (⟨#[]⟩, 12) := by
  have h := small_set small_nil
  unfold bigI okS
  rw [h.1, h.2]; rfl
def l12 : List ByteArray := [intB 1, intB 2]
theorem l12_small : SmallL l12 := fun s hs => by
  unfold l12 at hs
  rcases List.mem_cons.1 hs with rfl | hs
  · exact int_six (by decide) (by decide)
  · rw [List.mem_singleton.1 hs]; exact int_six (by decide) (by decide)
theorem l12_len : (sortM l12).length = 2 := by
  have : l12.Nodup := by
    unfold l12
    refine List.nodup_cons.2 ⟨fun q => ?_, by simp⟩
    have := intB_inj (by omega) (by omega) (List.mem_singleton.1 q)
    omega
  rw [sortM_nodup.2 this]; rfl
theorem range12 : rangeM 1 2 = (setM l12, 0) := by
  have e : rangeM 1 2 = bnd l12 := rfl
  rw [e, small_bnd l12_small]
theorem tl_self (s : ByteArray) : (s.toList == s.toList) = true := beq_self_eq_true _
set_option linter.unusedSimpArgs false in
set_option maxRecDepth 100000 in
set_option maxHeartbeats 6400000 in
theorem fawake_any (w : World) : Calls Tryz.prog 12 #[] w fun e w' => e = .returned (.bool true) ∧ Below w.heap.size w w' := by
  have HRG := hide (pRange_any 1 2 (by omega) (by omega) w)
  rw [range12] at HRG
  have HSB := Lib.hid (fun w => pSubsets_any (setM l12) (small_size l12_small) w)
  rw [small_subsetM l12_small] at HSB
  have HE := Lib.hid (fun w => rset_any [] none 0 0 w rfl (by omega) (fun s h => by cases h) (InC.nil _ _))
  change Hid (∀ w, Calls _ _ _ w fun e w' => e = .returned (.string (setM [])) ∧ _) at HE
  have HBI := Lib.hid (fun w => pBigInter_any (setM []) (small_size small_nil) w)
  rw [bigI_empty] at HBI
  have HPB := Lib.hid (fun w => rpartsO_any (setM (subL (sortM l12))) (by have := setM_size (subL (sortM l12)); omega) w)
  rw [(small_subs l12_small).2.2.2] at HPB
  have HL4 : Hid ((sortM (subL (sortM l12))).length = 4) := Lib.hid (by rw [(small_subs l12_small).2.1, l12_len])
  have HS2 := Lib.hid (fun (w : World) A hr => rset_any l12 A 2 2 w rfl (by omega) (fun s hs => by have := (six_val s (l12_small s hs)).2; omega) hr)
  change Hid (∀ w A, InC w A (l12.map Value.string) → Calls _ _ _ w fun e w' => e = .returned (.string (setM l12)) ∧ _) at HS2
  have q1 := tl_self (setM l12)
  have HI := Lib.hid (fun z w => rint_any z w)
  have HMM : Hid (l12.map Value.string = [Value.string (intB 1), Value.string (intB 2)]) := Lib.hid rfl
  generalize setM l12 = a at *
  generalize setM (subL (sortM l12)) = b at *
  generalize sortM (subL (sortM l12)) = bl at *
  generalize setM [] = z at *
  generalize l12.map Value.string = lv at *
  have HI1 := Lib.hid (fun w => HI.out 1 w)
  have HI2 := Lib.hid (fun w => HI.out 2 w)
  generalize intB 1 = i1 at *
  generalize intB 2 = i2 at *
  clear HI
  unfold RetV at HRG HSB HBI
  go_enter Tryz.func12, Tryz.ntmps12
  go_wp2_with fail
  refine (unhide HRG).mono ?_
  rintro e w1 ⟨rfl, hb1⟩
  have HB1 := hide hb1
  clear hb1
  go_wp2_with fail
  refine (HSB.out _).mono ?_
  rintro e w2 ⟨rfl, hb2⟩
  have HB2 := hide ((unhide HB1).trans (hb2.mono (unhide HB1).size))
  clear hb2
  go_wp2_with fail
  refine (HE.out _).mono ?_
  rintro e w3 ⟨rfl, hb3⟩
  have HB3 := hide ((unhide HB2).trans (hb3.mono (unhide HB2).size))
  clear hb3
  go_wp2_with fail
  refine (HBI.out _).mono ?_
  rintro e w4 ⟨rfl, hb4⟩
  have HB4 := hide ((unhide HB3).trans (hb4.mono (unhide HB3).size))
  clear hb4
  go_wp2_with fail
  refine (HI1.out _).mono ?_
  rintro e w5 ⟨rfl, hb5⟩
  have HB5 := hide ((unhide HB4).trans (hb5.mono (unhide HB4).size))
  clear hb5
  go_wp2_with fail
  refine (HI2.out _).mono ?_
  rintro e w6 ⟨rfl, hb6⟩
  have HB6 := hide ((unhide HB5).trans (hb6.mono (unhide HB5).size))
  clear hb6
  have HB7 := hide ((unhide HB6).alloc (unhide HB6).size (.cells #[.string i1, .string i2] 27))
  have HN7 : Hid (InC (w6.alloc (.cells #[.string i1, .string i2] 27)) (some ⟨w6.heap.size, 0, none⟩) lv) := hide (by rw [HMM.out]; exact new_in w6 27 #[.string i1, .string i2])
  go_wp2_with fail
  refine (HS2.out _ _ (unhide HN7)).mono ?_
  rintro e w8 ⟨rfl, hb8⟩
  have HB8 := hide ((unhide HB7).trans (hb8.mono (unhide HB7).size))
  clear hb8
  go_wp2_with fail
  refine (HPB.out _).mono ?_
  rintro e w9 ⟨S9, c9, n9, rfl, hn9, hO9, hb9⟩
  have HB9 := hide ((unhide HB8).trans (hb9.mono (unhide HB8).size))
  obtain rfl : n9 = 4 := by rw [hn9]; exact HL4.out
  clear hb9 hO9 hn9
  go_wp2_with fail
  go_ret
  exact ⟨rfl, unhide HB9⟩

end Go.Proofs.YtkdlmgahkckjbaaGreat
