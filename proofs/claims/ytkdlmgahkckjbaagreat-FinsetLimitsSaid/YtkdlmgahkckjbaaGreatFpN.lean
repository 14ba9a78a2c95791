/- FinsetLimits returns true: Range and Product accept exactly up to MaxSet elements. No conditions. -/
import Derived.Test.YtkdlmgahkckjbaaGreatFnO
import Derived.Test.YtkdlmgahkckjbaaGreatFpA
import Derived.Test.YtkdlmgahkckjbaaGreatFpG
namespace Go.Proofs.YtkdlmgahkckjbaaGreat
open Go.RowKit Go.Shelf VM

theorem setM_fits {d : Nat} {l : List ByteArray} (hd : d ≤ 31) (hv : ∀ s ∈ l, valB d s = true) (hn : l.Nodup) (hl : l.length ≤ 4096) (hz : 3 + totB l ≤ 131072) :
    bnd l = (setM l, 0) ∧ setM l ≠ ⟨#[]⟩ ∧ isK 5 (setM l) = true ∧ pt (setM l) = sortM l ∧ (sortM l).length = l.length := by
  have h1 := setM_ok hd hv (by rw [sortM_tot hn]; exact hz)
  have h2 := made_set h1.2
  have h3 : (sortM l).length = l.length := sortM_nodup.2 hn
  refine ⟨?_, h1.2, h2.1, h2.2.1, h3⟩
  unfold bnd
  rw [if_neg]
  rintro (q | q)
  · omega
  · exact h1.2 q
theorem range_fits {a : Int} {n : Nat} (h1 : -9223372036854775808 ≤ a) (h2 : a + (n : Int) ≤ 9223372036854775808) (hn : n ≤ 4096) :
    bnd (rangeL a n) = (setM (rangeL a n), 0) ∧ setM (rangeL a n) ≠ ⟨#[]⟩ ∧ isK 5 (setM (rangeL a n)) = true ∧ pt (setM (rangeL a n)) = sortM (rangeL a n) ∧ (sortM (rangeL a n)).length = n := by
  have h := setM_fits (d := 1) (l := rangeL a n) (by decide) (fun s hs => by
    unfold rangeL at hs
    obtain ⟨i, _, rfl⟩ := List.mem_map.1 hs
    exact (val_int (Nat.le_refl 1) _).1) (rangeL_nodup a n h1 h2) (by rw [rangeL_len]; exact hn) (by
    have := totB_bound (N := 9) (l := rangeL a n) fun s hs => Nat.le_of_eq (rangeL_size a n s hs)
    rw [rangeL_len] at this
    omega)
  rw [rangeL_len] at h
  exact h
theorem two_row {x y : ByteArray} (hx : valB 1 x = true ∧ x.size = 9) (hy : valB 1 y = true ∧ y.size = 9) : valB 2 (mkM 4 [x, y]) = true ∧ (mkM 4 [x, y]).size = 21 := by
  have hv : ∀ s ∈ [x, y], valB 1 s = true := fun s hs => by
    rcases List.mem_cons.1 hs with rfl | hs
    · exact hx.1
    · rw [List.mem_singleton.1 hs]; exact hy.1
  have h1 := enc_comp_val (d := 1) (by decide) hv (k := 4) (by decide) (by
    unfold parted countOK ascOK
    rw [headL_ne (by decide) (by decide) (by decide)]
    simp) (by rw [totB_cons, totB_cons, hx.2, hy.2]; decide)
  have e : mkM 4 [x, y] = encB 4 [x, y] := by rw [mkM_val (fun s hs => valB_le (by decide) (hv s hs)), if_pos (valB_le (by decide) h1.1)]
  rw [e]
  refine ⟨h1.1, ?_⟩
  rw [encB_size, totB_cons, totB_cons, hx.2, hy.2]
  rfl
theorem rng_mem {a : Int} {n : Nat} {s : ByteArray} (h : s ∈ sortM (rangeL a n)) : valB 1 s = true ∧ s.size = 9 := by
  have hs := sortM_mem.1 h
  refine ⟨?_, rangeL_size a n s hs⟩
  unfold rangeL at hs
  obtain ⟨i, _, rfl⟩ := List.mem_map.1 hs
  exact (val_int (Nat.le_refl 1) _).1
/-- the product of two ranges -/
theorem prod_two (m : Nat) (hm : m ≤ 67) (hm1 : 1 ≤ m) : let a := setM (rangeL 1 64); let b := setM (rangeL 1 m);
    (4096 < 64 * m → prodM [a, b] = (⟨#[]⟩, 9)) ∧ (64 * m ≤ 4096 → ∃ v, prodM [a, b] = (v, 0) ∧ v.size ≤ 281474976710656 ∧ (pt v).length = 64 * m) := by
  intro a b
  obtain ⟨_, _, a3, a4, a5⟩ := range_fits (a := 1) (n := 64) (by decide) (by decide) (by decide)
  obtain ⟨_, _, b3, b4, b5⟩ := range_fits (a := 1) (n := m) (by decide) (by omega) (by omega)
  have hall : [a, b].all (isK 5) = true := by
    show (isK 5 a && (isK 5 b && true)) = true
    rw [a3, b3]; rfl
  have hR : ([a, b].map pt).reverse = [sortM (rangeL 1 m), sortM (rangeL 1 64)] := by
    show [pt b, pt a] = _
    rw [a4, b4]
  have hany : ([a, b].any fun s => (pt s).isEmpty) = false := by
    show ((pt a).isEmpty || ((pt b).isEmpty || false)) = false
    rw [a4, b4]
    cases h1 : sortM (rangeL 1 64) with
    | nil => rw [h1] at a5; cases a5
    | cons x l =>
      cases h2 : sortM (rangeL 1 m) with
      | nil => rw [h2] at b5; rw [← b5] at hm1; cases hm1
      | cons y k => rfl
  have hlen : prodR ([a, b].map pt).reverse = 64 * m := by
    rw [hR]
    show 1 * (sortM (rangeL 1 64)).length * (sortM (rangeL 1 m)).length = _
    rw [a5, b5, Nat.one_mul]
  refine ⟨fun h => ?_, fun h => ?_⟩
  · unfold prodM
    rw [if_neg (by rw [hall]; decide), if_neg (by rw [hany]; decide), if_pos (by rw [hlen]; exact h)]
  · rw [prodM_fits hall hany (by rw [hlen]; omega)]
    have hmem : ∀ x ∈ rowsR ([a, b].map pt).reverse, ∃ s t, x = [s, t] ∧ s ∈ sortM (rangeL 1 64) ∧ t ∈ sortM (rangeL 1 m) := fun x hx => by
      rw [hR] at hx
      obtain ⟨y, hy, h2⟩ := List.mem_flatMap.1 hx
      obtain ⟨t, ht, rfl⟩ := List.mem_map.1 h2
      obtain ⟨z, hz, h3⟩ := List.mem_flatMap.1 hy
      obtain ⟨s, hs, rfl⟩ := List.mem_map.1 h3
      rw [List.mem_singleton.1 hz]
      exact ⟨s, t, rfl, hs, ht⟩
    have hrow : ∀ s ∈ (rowsR ([a, b].map pt).reverse).map (mkM 4), valB 2 s = true ∧ s.size = 21 := fun s hs => by
      obtain ⟨x, hx, rfl⟩ := List.mem_map.1 hs
      obtain ⟨u, t, rfl, hu, ht⟩ := hmem x hx
      exact two_row (rng_mem hu) (rng_mem ht)
    have hl : ((rowsR ([a, b].map pt).reverse).map (mkM 4)).length = 64 * m := by rw [List.length_map, rowsR_len, hlen]
    have hnd : ((rowsR ([a, b].map pt).reverse).map (mkM 4)).Nodup := seqs_nodup (rowsR_nodup fun f hf => by
      rw [hR] at hf
      rcases List.mem_cons.1 hf with rfl | hf
      · rw [← b4]; exact pt_nodup b3
      · rw [List.mem_singleton.1 hf, ← a4]; exact pt_nodup a3) fun s hs e => by have := (hrow s hs).2; rw [e] at this; cases this
    have htot := totB_bound (N := 21) (l := (rowsR ([a, b].map pt).reverse).map (mkM 4)) fun s hs => Nat.le_of_eq (hrow s hs).2
    rw [hl] at htot
    have hf := setM_fits (d := 2) (by decide) (fun s hs => (hrow s hs).1) hnd (by rw [hl]; exact h) (by omega)
    refine ⟨_, hf.1, ?_, ?_⟩
    · have := setM_size ((rowsR ([a, b].map pt).reverse).map (mkM 4)); omega
    · rw [hf.2.2.2.1, hf.2.2.2.2, hl]
theorem range_lim (k : Nat) : (4096 ≤ k → rangeM 0 (k : Int) = (⟨#[]⟩, 9)) ∧ (k < 4096 → ∃ v, rangeM 0 (k : Int) = (v, 0) ∧ v.size ≤ 281474976710656 ∧ (pt v).length = k + 1) := by
  refine ⟨fun h => ?_, fun h => ?_⟩
  · unfold rangeM
    rw [if_neg (by omega), if_pos (by omega)]
  · obtain ⟨h1, _, _, h4, h5⟩ := range_fits (a := 0) (n := k + 1) (by decide) (by omega) (by omega)
    refine ⟨setM (rangeL 0 (k + 1)), ?_, ?_, ?_⟩
    · unfold rangeM
      rw [if_neg (by omega), if_neg (by omega), show ((k : Int) - 0 + 1).toNat = k + 1 by omega, h1]
    · have := setM_size (rangeL 0 (k + 1)); omega
    · rw [h4, h5]
theorem range_one (m : Nat) (hm : m ≤ 67) (hm1 : 1 ≤ m) : rangeM 1 (m : Int) = (setM (rangeL 1 m), 0) := by
  obtain ⟨h1, _⟩ := range_fits (a := 1) (n := m) (by decide) (by omega) (by omega)
  unfold rangeM
  rw [if_neg (by omega), if_neg (by omega), show ((m : Int) - 1 + 1).toNat = m by omega, h1]
set_option linter.unusedSimpArgs false in
set_option maxRecDepth 100000 in
set_option maxHeartbeats 12800000 in
theorem finsetLimits_any (z : Int) (hz : 0 ≤ z ∧ z ≤ 255) (by_ : Bool) (w : World) :
    Calls Tryz.prog 4 #[.int .u8 z, .bool by_] w fun e w' => e = .returned (.bool true) ∧ Below w.heap.size w w' := by
  obtain ⟨q, hq, hq6⟩ : ∃ q : Nat, z.tmod 6 = (q : Int) ∧ q < 6 := ⟨(z.tmod 6).toNat, by
    have := Int.tmod_nonneg (a := z) 6 hz.1; omega, by
    have := Int.tmod_lt_of_pos z (b := 6) (by decide); have := Int.tmod_nonneg (a := z) 6 hz.1; omega⟩
  have gq : IntKind.u8.wrap (q : Int) = (q : Int) := by simp [IntKind.wrap, IntKind.signed, IntKind.bits]; omega
  have gk : IntKind.i64.wrap (4093 + (q : Int)) = 4093 + (q : Int) := IntWalk.i64_in _ (by omega)
  have gm : IntKind.i64.wrap (62 + (q : Int)) = 62 + (q : Int) := IntWalk.i64_in _ (by omega)
  have HP := Lib.hid (fun w => pRange_any 0 (4093 + (q : Int)) (by omega) (by omega) w)
  have ek : ((4093 + q : Nat) : Int) = 4093 + (q : Int) := by simp
  have em : ((62 + q : Nat) : Int) = 62 + (q : Int) := by simp
  have HL := Lib.hid (range_lim (4093 + q))
  rw [ek] at HL
  have HA := Lib.hid (fun w => rRange_any 1 64 (by omega) (by omega) w)
  have HB := Lib.hid (fun w => rRange_any 1 (62 + (q : Int)) (by omega) (by omega) w)
  have e1 := range_one 64 (by decide) (by decide)
  have e2 := range_one (62 + q) (by omega) (by omega)
  rw [em] at e2
  change rangeM 1 64 = _ at e1
  rw [e1] at HA
  rw [e2] at HB
  have HT := Lib.hid (prod_two (62 + q) (by omega) (by omega))
  dsimp only at HT
  have HSa := Lib.hid (setM_size (rangeL 1 64))
  have HSb := Lib.hid (setM_size (rangeL 1 (62 + q)))
  have HPP := Lib.hid (fun A c w hr => pProduct_any [setM (rangeL 1 64), setM (rangeL 1 (62 + q))] A 2 c w rfl (by omega) (fun s hs => by
    rcases List.mem_cons.1 hs with rfl | hs
    · have := setM_size (rangeL 1 64); omega
    · rw [List.mem_singleton.1 hs]; have := setM_size (rangeL 1 (62 + q)); omega) hr)
  have HPT := Lib.hid (fun s hs w => rpartsO_any s hs w)
  have HQ := Lib.hid hq6
  clear e1 e2
  generalize setM (rangeL 1 64) = sa at *
  generalize setM (rangeL 1 (62 + q)) = sb at *
  generalize prodM [sa, sb] = pr at *
  generalize rangeM 0 (4093 + (q : Int)) = rr at *
  have gmul : IntKind.i64.wrap (64 * (62 + (q : Int))) = 64 * (62 + (q : Int)) := IntWalk.i64_in _ (by omega)
  have gsub : IntKind.i64.wrap (64 * (62 + (q : Int)) - 1) = 64 * (62 + (q : Int)) - 1 := IntWalk.i64_in _ (by omega)
  have gq2 : IntKind.i64.wrap (q : Int) = (q : Int) := IntWalk.i64_in _ (by omega)
  clear ek em
  cases by_ with
  | false =>
    by_cases hk : 4096 ≤ 4093 + q
    · have hrr := HL.out.1 hk
      subst hrr
      have g5 : decide ((4096 : Int) ≤ 4093 + (q : Int)) = true := decide_eq_true (by omega)
      clear hk HA HB HT HPP HL
      go_enter Tryz.func4, Tryz.ntmps4
      go_wp2_with fail
      refine (HP.out _).mono ?_
      rintro e w1 ⟨rfl, hb1⟩
      have HB1 := hide hb1
      clear hb1
      go_wp2_with fail
      refine (fawake_any _).mono ?_
      rintro e w2 ⟨rfl, hb2⟩
      have HB2 := hide ((unhide HB1).trans (hb2.mono (unhide HB1).size))
      clear hb2
      go_wp2_with fail
      go_ret
      exact ⟨rfl, unhide HB2⟩
    · obtain ⟨v, hrr, hsz, hpl⟩ := HL.out.2 (by omega)
      subst hrr
      have g5 : decide ((4096 : Int) ≤ 4093 + (q : Int)) = false := decide_eq_false (by omega)
      have HV := Lib.hid (fun w => HPT.out v hsz w)
      have HPLN := Lib.hid hpl
      clear hk HA HB HT HPP HL hsz hpl
      go_enter Tryz.func4, Tryz.ntmps4
      go_wp2_with fail
      refine (HP.out _).mono ?_
      rintro e w1 ⟨rfl, hb1⟩
      have HB1 := hide hb1
      clear hb1
      go_wp2_with fail
      refine (fawake_any _).mono ?_
      rintro e w2 ⟨rfl, hb2⟩
      have HB2 := hide ((unhide HB1).trans (hb2.mono (unhide HB1).size))
      clear hb2
      go_wp2_with fail
      refine (HV.out _).mono ?_
      rintro e w3 ⟨S3, c3, n3, rfl, hn3, hO3, hb3⟩
      have HB3 := hide ((unhide HB2).trans (hb3.mono (unhide HB2).size))
      have HQ3 : Hid (((n3 : Int) == 4093 + (q : Int) + 1) = true) := Lib.hid (by rw [hn3, HPLN.out]; simp)
      have gs : IntKind.i64.wrap (4093 + (q : Int) + 1) = 4093 + (q : Int) + 1 := IntWalk.i64_in _ (by omega)
      clear hn3 hO3 hb3
      go_wp2_with fail
      go_ret
      exact ⟨ret_bool HQ3.out, unhide HB3⟩
  | true =>
    obtain ⟨rr1, rr2⟩ := rr
    go_enter Tryz.func4, Tryz.ntmps4
    go_wp2_with fail
    refine (HP.out _).mono ?_
    rintro e w1 ⟨rfl, hb1⟩
    have HB1 := hide hb1
    clear hb1
    go_wp2_with fail
    refine (HA.out _).mono ?_
    rintro e w2 ⟨rfl, hb2⟩
    have HB2 := hide ((unhide HB1).trans (hb2.mono (unhide HB1).size))
    clear hb2
    go_wp2_with fail
    refine (HB.out _).mono ?_
    rintro e w3 ⟨rfl, hb3⟩
    have HB3 := hide ((unhide HB2).trans (hb3.mono (unhide HB2).size))
    clear hb3
    have HI3 : Hid (InC (w3.alloc (.cells #[.string sa, .string sb] 27)) (some ⟨w3.heap.size, 0, none⟩) ([sa, sb].map Value.string)) := hide (new_in w3 27 #[.string sa, .string sb])
    have HB4 := hide ((unhide HB3).alloc (unhide HB3).size (.cells #[.string sa, .string sb] 27))
    have HPC := hide (HPP.out (some ⟨w3.heap.size, 0, none⟩) 2 _ (unhide HI3))
    go_wp2_with fail
    refine (unhide HPC).mono ?_
    rintro e w5 ⟨rfl, hb5⟩
    have HB5 := hide ((unhide HB4).trans (hb5.mono (unhide HB4).size))
    clear hb5 HPC HI3
    by_cases hk : 4096 < 64 * (62 + q)
    · have hpr := HT.out.1 hk
      subst hpr
      have g5 : decide ((4096 : Int) ≤ 64 * (62 + (q : Int)) - 1) = true := decide_eq_true (by omega)
      clear hk HT
      go_wp2_with fail
      refine (fawake_any _).mono ?_
      rintro e w6 ⟨rfl, hb6⟩
      have HB6 := hide ((unhide HB5).trans (hb6.mono (unhide HB5).size))
      clear hb6
      go_wp2_with fail
      go_ret
      exact ⟨rfl, unhide HB6⟩
    · obtain ⟨v, hpr, hsz, hpl⟩ := HT.out.2 (by omega)
      subst hpr
      have g5 : decide ((4096 : Int) ≤ 64 * (62 + (q : Int)) - 1) = false := decide_eq_false (by omega)
      have HV := Lib.hid (fun w => HPT.out v hsz w)
      have HPLN := Lib.hid hpl
      clear hk HT hsz hpl
      go_wp2_with fail
      refine (fawake_any _).mono ?_
      rintro e w6 ⟨rfl, hb6⟩
      have HB6 := hide ((unhide HB5).trans (hb6.mono (unhide HB5).size))
      clear hb6
      go_wp2_with fail
      refine (HV.out _).mono ?_
      rintro e w7 ⟨S3, c3, n3, rfl, hn3, hO3, hb3⟩
      have HB7 := hide ((unhide HB6).trans (hb3.mono (unhide HB6).size))
      have HQ3 : Hid (((n3 : Int) == 64 * (62 + (q : Int))) = true) := Lib.hid (by rw [hn3, HPLN.out]; simp)
      have gs : IntKind.i64.wrap (64 * (62 + (q : Int)) - 1 + 1) = 64 * (62 + (q : Int)) - 1 + 1 := IntWalk.i64_in _ (by omega)
      clear hn3 hO3 hb3
      go_wp2_with fail
      go_ret
      exact ⟨ret_bool HQ3.out, unhide HB7⟩

end Go.Proofs.YtkdlmgahkckjbaaGreat
