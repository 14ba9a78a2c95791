/- The reference's Compare is the program's. Condition: at most 2^48 bytes. -/
import Derived.Test.YtaambeficfiacaaGreatDoorVrI
import Derived.Test.YtaambeficfiacaaGreatDoorVaC2
namespace Go.Proofs.YtaambeficfiacaaGreatDoor
open Go.RowKit VM

theorem bl_self : ∀ x : List UInt8, Op.bytesLess x x = false := by
  intro x
  induction x with
  | nil => rfl
  | cons a x ih => simp [Op.bytesLess, ih]
set_option linter.unusedSimpArgs false in
set_option maxRecDepth 100000 in
set_option maxHeartbeats 3200000 in
theorem rcompare_any (s t : ByteArray) (hs : s.size ≤ 281474976710656) (ht : t.size ≤ 281474976710656) (w : World) :
    Calls Tryz.prog 37 #[.string s, .string t] w fun e w' => e = .returned (.int .i64 (cmpM s t)) ∧ Below w.heap.size w w' := by
  have HV1 := Lib.hid (fun w => rvalid_any s hs w)
  have HV2 := Lib.hid (fun w => rvalid_any t ht w)
  cases h1 : valB 32 s with
  | true =>
    rw [h1] at HV1
    cases h2 : valB 32 t with
    | true =>
      rw [h2] at HV2
      obtain ⟨a1, a2, a3⟩ := tree_ok h1
      obtain ⟨b1, b2, b3⟩ := tree_ok h2
      have hz : cmpM s t = ord 32 (treeB s) (treeB t) := by
        by_cases he : s = t
        · subst he; rw [cmpM_self, ord_self a1]
        · unfold cmpM; rw [if_neg he, if_pos h1, if_pos h2]
      have HC := Lib.hid (fun w => or_any 32 (by decide) s t (treeB s) (treeB t) a1 b1 a2 b2 (by omega) (by omega) w)
      rw [hz]
      clear hz a1 a2 b1 b2 h1 h2
      generalize ord 32 (treeB s) (treeB t) = z at *
      go_enter Tryz.func37, Tryz.ntmps37
      go_wp2_with fail
      refine (HV1.out _).mono ?_
      rintro e w1 ⟨rfl, hb1⟩
      have HB1 := hide hb1
      clear hb1
      go_wp2_with fail
      refine (HV2.out _).mono ?_
      rintro e w2 ⟨rfl, hb2⟩
      have HB2 := hide ((unhide HB1).trans (hb2.mono (unhide HB1).size))
      clear hb2
      go_wp2_with fail
      refine (HC.out _).mono ?_
      rintro e w3 ⟨rfl, hb3⟩
      have HB3 := hide ((unhide HB2).trans (hb3.mono (unhide HB2).size))
      clear hb3
      go_wp2_with fail
      go_ret
      exact ⟨rfl, unhide HB3⟩
    | false =>
      rw [h2] at HV2
      have he : s ≠ t := by rintro rfl; rw [h1] at h2; cases h2
      have hz : cmpM s t = 1 := by unfold cmpM; rw [if_neg he, if_pos h1, if_neg (by rw [h2]; simp)]
      rw [hz]
      clear hz he h1 h2
      go_enter Tryz.func37, Tryz.ntmps37
      go_wp2_with fail
      refine (HV1.out _).mono ?_
      rintro e w1 ⟨rfl, hb1⟩
      have HB1 := hide hb1
      clear hb1
      go_wp2_with fail
      refine (HV2.out _).mono ?_
      rintro e w2 ⟨rfl, hb2⟩
      have HB2 := hide ((unhide HB1).trans (hb2.mono (unhide HB1).size))
      clear hb2
      go_wp2_with fail
      refine (rsign_any _ _ _).mono ?_
      rintro e w3 ⟨rfl, rfl⟩
      go_wp2_with fail
      go_ret
      exact ⟨rfl, unhide HB2⟩
  | false =>
    rw [h1] at HV1
    cases h2 : valB 32 t with
    | true =>
      rw [h2] at HV2
      have he : s ≠ t := by rintro rfl; rw [h1] at h2; cases h2
      have hz : cmpM s t = -1 := by unfold cmpM; rw [if_neg he, if_neg (by rw [h1]; simp), if_pos h2]
      rw [hz]
      clear hz he h1 h2
      go_enter Tryz.func37, Tryz.ntmps37
      go_wp2_with fail
      refine (HV1.out _).mono ?_
      rintro e w1 ⟨rfl, hb1⟩
      have HB1 := hide hb1
      clear hb1
      go_wp2_with fail
      refine (HV2.out _).mono ?_
      rintro e w2 ⟨rfl, hb2⟩
      have HB2 := hide ((unhide HB1).trans (hb2.mono (unhide HB1).size))
      clear hb2
      go_wp2_with fail
      refine (rsign_any _ _ _).mono ?_
      rintro e w3 ⟨rfl, rfl⟩
      go_wp2_with fail
      go_ret
      exact ⟨rfl, unhide HB2⟩
    | false =>
      rw [h2] at HV2
      have hz : ∃ p q, Op.bytesLess s.toList t.toList = p ∧ (s.toList == t.toList) = q ∧ cmpM s t = if p = true then -1 else if q = false then 1 else 0 := by
        refine ⟨_, _, rfl, rfl, ?_⟩
        by_cases he : s = t
        · subst he
          rw [cmpM_self, bl_self, show (s.toList == s.toList) = true from beq_self_eq_true _]
          rfl
        · rw [ne_list he]
          unfold cmpM lessS
          rw [if_neg he, if_neg (by rw [h1]; simp), if_neg (by rw [h2]; simp)]
          rfl
      obtain ⟨p, q, g1, g2, hz⟩ := hz
      rw [hz]
      clear hz h1 h2
      cases p <;> cases q
      all_goals
        go_enter Tryz.func37, Tryz.ntmps37
        go_wp2_with fail
        refine (HV1.out _).mono ?_
        rintro e w1 ⟨rfl, hb1⟩
        have HB1 := hide hb1
        clear hb1
        go_wp2_with fail
        refine (HV2.out _).mono ?_
        rintro e w2 ⟨rfl, hb2⟩
        have HB2 := hide ((unhide HB1).trans (hb2.mono (unhide HB1).size))
        clear hb2
        go_wp2_with fail
        refine (rsign_any _ _ _).mono ?_
        rintro e w3 ⟨rfl, rfl⟩
        go_wp2_with fail
        go_ret
        exact ⟨rfl, unhide HB2⟩

end Go.Proofs.YtaambeficfiacaaGreatDoor
