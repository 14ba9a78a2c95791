/- The program's Product returns prodM of its sets. Conditions: the strings are at most 2^48 bytes, the slice at most 2^62 long. -/
import Derived.Test.YtkdlmgahkckjbaaGreatFpF
namespace Go.Proofs.YtkdlmgahkckjbaaGreat
open Go.RowKit Go.Shelf VM

set_option linter.unusedSimpArgs false in
set_option maxRecDepth 100000 in
set_option maxHeartbeats 6400000 in
theorem pProduct_any (ls : List ByteArray) (A : Option Addr) (n c : Nat) (w : World) (hn : n = ls.length) (hn1 : n ≤ 4611686018427387904) (hs : ∀ s ∈ ls, s.size ≤ 281474976710656) (hr : InC w A (ls.map Value.string)) :
    Calls Tryz.prog 8 #[.slice A n c] w (RetV w (prodM ls)) := by
  have HS := Lib.hid hs
  have HR := hide hr
  have HN := Lib.hid hn
  have HT := Lib.hid (fun h => prodM_type (ls := ls) h)
  have HE := Lib.hid (fun h h2 => prodM_empty (ls := ls) h h2)
  have HO := Lib.hid (fun h h2 i hi h3 => prodM_over (ls := ls) h h2 (i := i) hi h3)
  have HL := Lib.hid (fun h h2 h3 => prodM_long (ls := ls) h h2 h3)
  have HF := Lib.hid (fun h h2 h3 => prodM_fits (ls := ls) h h2 h3)
  generalize prodM ls = r at *
  clear hs hr hn
  go_enter Tryz.func8, Tryz.ntmps8
  go_wp2_with fail
  go_loopw [12] (fun iv wr => ∃ j : Nat, iv = .int .i64 j ∧ j ≤ n ∧ Hid (InC wr A (ls.map Value.string)) ∧ Hid (ls.all (isK 5) = (ls.drop j).all (isK 5)) ∧ Hid (Below w.heap.size w wr)) (fun iv _ => n - (intOf iv).toNat)
  case atStart => exact ⟨0, rfl, by omega, unhide HR, rfl, Below.refl _ _⟩
  case round =>
    obtain ⟨j, rfl, hj, hR, hA, hB⟩ := hrel
    by_cases hil : j < n
    · obtain ⟨u, hu⟩ : ∃ u, ls[j]? = some u := ⟨ls[j]'(by have := HN.out; omega), List.getElem?_eq_getElem _⟩
      have HC := Lib.hid (fun w => isSet_any u (HS.out u (List.mem_of_getElem? hu)) w)
      have HST : Hid (ls.all (isK 5) = (isK 5 u && (ls.drop (j + 1)).all (isK 5))) := Lib.hid (by rw [hA.out]; exact all_step hu)
      obtain ⟨b5, o5, hA1, hb5, hc5⟩ := at1s hR.out (i := j) (u := .string u) (by rw [List.getElem?_map, hu]; rfl)
      subst hA1
      clear hu hA
      cases hz : isK 5 u with
      | true =>
        rw [hz] at HC
        have HA2 : Hid (ls.all (isK 5) = (ls.drop (j + 1)).all (isK 5)) := Lib.hid (by rw [HST.out, hz, Bool.true_and])
        clear HST hz
        go_wp2_with fail
        refine (HC.out _).mono ?_
        rintro e w3 ⟨rfl, hb⟩
        have HB9 := hide (hB.out.trans (hb.mono hB.out.size))
        have HR8 := hide (hR.out.below hb)
        clear hb HC hB hR hc5 hb5
        go_wp2_with fail
        go_roundw
        case rel => exact ⟨j + 1, by go_num, by omega, unhide HR8, HA2.out, unhide HB9⟩
        case measure => simp [intOf]; omega
      | false =>
        rw [hz] at HC
        have HA2 : Hid (r = (⟨#[]⟩, 6)) := Lib.hid (HT.out (by rw [HST.out, hz, Bool.false_and]))
        clear HST hz
        go_wp2_with fail
        refine (HC.out _).mono ?_
        rintro e w3 ⟨rfl, hb⟩
        have HB9 := hide (hB.out.trans (hb.mono hB.out.size))
        clear hb HC hB hR hc5 hb5
        go_wp2_with fail
        go_ret2
        exact ⟨by rw [HA2.out]; rfl, unhide HB9⟩
    · have HA2 : Hid (ls.all (isK 5) = true) := Lib.hid (by
        rw [hA.out, List.drop_eq_nil_of_le (by have := HN.out; omega)]; rfl)
      have hjn : j = n := by omega
      subst hjn
      have HR1 := hide hR.out
      have HB1 := hide hB.out
      have HHE := Lib.hid (has_empty HA2.out)
      have HST := Lib.hid (fun w => pset_any [] none 0 0 w rfl (by omega) (fun s h => by cases h) (InC.nil _ _))
      clear hA hR hB hil hj
      generalize wr = w1 at *
      rw [set_same] at HST
      change Hid (∀ w, Calls _ _ _ _ fun e w' => e = .returned (.string (setM [])) ∧ _) at HST
      generalize setM [] = sm at *
      go_wp2_with fail
      refine (HST.out _).mono ?_
      rintro e w2 ⟨rfl, hb2⟩
      have HB2 := hide ((unhide HB1).trans (hb2.mono (unhide HB1).size))
      have HR2 := hide ((unhide HR1).below hb2)
      clear hb2
      have HCT := Lib.hid (contains_any ls sm A j c w2 HN.out (by omega) (unhide HR2))
      cases hz : hasB sm ls with
      | true =>
        have HQ : Hid (r = (sm, 0)) := Lib.hid (HE.out HA2.out (by rw [← HHE.out]; exact hz))
        rw [hz] at HCT
        clear hz
        go_wp2_with fail
        refine HCT.out.mono ?_
        rintro e w3 ⟨rfl, rfl⟩
        go_wp2_with fail
        refine (HST.out _).mono ?_
        rintro e w4 ⟨rfl, hb4⟩
        have HB4 := hide ((unhide HB2).trans (hb4.mono (unhide HB2).size))
        clear hb4
        go_wp2_with fail
        go_ret2
        exact ⟨by rw [HQ.out]; rfl, unhide HB4⟩
      | false =>
        have HNE : Hid ((ls.any fun s => (pt s).isEmpty) = false) := Lib.hid (by rw [← HHE.out]; exact hz)
        rw [hz] at HCT
        clear hz
        go_wp2_with fail
        refine HCT.out.mono ?_
        rintro e w3 ⟨rfl, rfl⟩
        clear HCT
        by_cases h13 : 131072 < j
        · have HQ : Hid (r = (⟨#[]⟩, 9)) := Lib.hid (HL.out HA2.out HNE.out (by rw [← HN.out]; omega))
          go_wp2_with fail
          go_ret2
          exact ⟨by rw [HQ.out]; rfl, unhide HB2⟩
        · obtain ⟨i0, hi0, hiz0, hiz1, hiz2⟩ := info_parts sl_info
          go_wp2_with (at_make; refine wpList_make_all _ rfl _ _ 44 rfl 22 i0 (.slice none 0 0) 1 Tryz.underlying44 hi0 hiz0 hiz1 .i64 .i64 _ _ j rfl rfl rfl rfl (by rw [hiz2]; omega) (by unfold maxLen; omega) (sv0A j) (sv0A_made j) ?_)
          have HP0 : Hid (PrI w w3.heap.size ls 0 (w3.alloc (.cells (sv0A j) 22))) := hide (by have := PrI.start (w := w) (X := w3) ls (unhide HB2); rw [← HN.out] at this; exact this)
          obtain ⟨F, hF0⟩ : ∃ F, Hid (F = w3.heap.size) := ⟨_, Lib.hid rfl⟩
          rw [← hF0.out] at HP0
          simp only [← hF0.out]
          generalize w3.alloc (.cells (sv0A j) 22) = w4 at *
          clear hi0 hiz0 hiz1 hiz2 hF0 HHE
          go_loopw [6, 32] (fun cv iv wr => ∃ (k q : Nat), iv = .int .i64 k ∧ cv = .int .i64 q ∧ k ≤ j ∧ q ≤ 4096 ∧ Hid (q = pfx ls k) ∧ Hid (PrI w F ls k wr)) (fun _ iv _ => j - (intOf iv).toNat)
          case atStart => exact ⟨0, 1, rfl, rfl, by omega, by omega, rfl, unhide HP0⟩
          case round =>
            obtain ⟨k, q, rfl, rfl, hk, hq, hqp, hP⟩ := hrel
            by_cases hkj : k < j
            · obtain ⟨u, hu⟩ : ∃ u, ls[k]? = some u := ⟨ls[k]'(by have := HN.out; omega), List.getElem?_eq_getElem _⟩
              have HC := Lib.hid (fun w => pparts_any u (HS.out u (List.mem_of_getElem? hu)) w)
              have HU := Lib.hid hu
              have HLE := Lib.hid (pt_len u)
              have HPS : Hid (pfx ls (k + 1) = pfx ls k * (pt u).length) := Lib.hid (pfx_succ hu)
              obtain ⟨b5, o5, hA1, hb5, hc5⟩ := at1s (((unhide HR)).below hP.out.b) (i := k) (u := .string u) (by rw [List.getElem?_map, hu]; rfl)
              subst hA1
              clear hu
              go_wp2_with fail
              refine (HC.out _).mono ?_
              rintro e w5 ⟨S3, c3, n3, rfl, hn3, hO3, hb3⟩
              have HP6 := hide (hP.out.step (by rw [← HN.out]; exact hkj) HU.out hn3 hO3 hb3)
              have hn6 : n3 ≤ 65536 := by rw [hn3]; exact HLE.out
              obtain ⟨p, hp⟩ : ∃ p, Hid (p = q * n3) := ⟨_, Lib.hid rfl⟩
              have hpl : p ≤ 4096 * 65536 := by rw [hp.out]; exact Nat.mul_le_mul hq hn6
              have HPP : Hid (p = pfx ls (k + 1)) := Lib.hid (by rw [hp.out, HPS.out, hqp.out, hn3])
              obtain ⟨vz, kF, fF⟩ : ∃ z : SV, w5.cell? ⟨F, k, none⟩ = some (svV z) ∧ w5.frozen? ⟨F, k, none⟩ = false := by
                obtain ⟨cur, zs, h1, h2, h3, h4, h5⟩ := hP.out.row
                have k5 := h1.below hb3 h1.lt
                exact ⟨_, by rw [k5.cell]; exact h4 k (by rw [← HN.out]; exact hkj), k5.frozen k⟩
              obtain ⟨va, vn, vc⟩ := vz
              change w5.cell? ⟨F, k, none⟩ = some (.slice va vn vc) at kF
              have gm : wrap64 ((q : Int) * (n3 : Int)) = (p : Int) := by
                have e : (q : Int) * (n3 : Int) = (p : Int) := by rw [hp.out]; simp
                rw [e]
                exact IntWalk.wrap64_in _ (by omega)
              clear hn3 hO3 hb3 hc5 hb5 hP HC HU
              by_cases h4 : 4096 < p
              · have HQ : Hid (r = (⟨#[]⟩, 9)) := Lib.hid (HO.out HA2.out HNE.out (k + 1) (by rw [← HN.out]; omega) (by rw [← HPP.out]; exact h4))
                go_wp2_with fail
                go_ret2
                exact ⟨by rw [HQ.out]; rfl, (unhide HP6).b⟩
              · go_wp2_with fail
                go_roundw
                case rel => exact ⟨k + 1, p, by go_num, by go_num, by omega, by omega, HPP.out, unhide HP6⟩
                case measure => simp [intOf]; omega
            · have hkj2 : k = j := by omega
              subst hkj2
              have HPX : Hid (PrI w F ls ls.length wr) := hide (by rw [← HN.out]; exact hP.out)
              have hqq : Hid (q = prodR (ls.map pt).reverse) := Lib.hid (by rw [hqp.out, HN.out, pfx_all])
              have HQ : Hid (r = bnd ((rowsR (ls.map pt).reverse).map (mkM 4))) := Lib.hid (HF.out HA2.out HNE.out (by rw [← hqq.out]; omega))
              obtain ⟨zs, hFa⟩ := (unhide HPX).facs HNE.out
              have HFA := hide hFa
              have HPB := hide (unhide HPX).b
              have HCH := choices_any (some ⟨F, 0, none⟩) k k (q : Int) wr
              clear hP hFa HPX hqp hk hkj
              go_wp2_with fail
              refine HCH.mono ?_
              rintro e w6 ⟨rfl, rfl⟩
              have HB6 := hide (((unhide HPB).alloc (unhide HPB).size (.cells #[.slice (some ⟨F, 0, none⟩) k k] 44)).alloc (by have := (unhide HPB).size; simp; omega) (.cells #[.int .i64 (q : Int)] 3))
              have k1 := (Blk.new wr 44 #[.slice (some ⟨F, 0, none⟩) k k]).alloc (.cells #[.int .i64 (q : Int)] 3)
              have k2 := Blk.new (wr.alloc (.cells #[.slice (some ⟨F, 0, none⟩) k k] 44)) 3 #[.int .i64 (q : Int)]
              rw [World.size_alloc] at k2
              have bb : Below wr.heap.size wr ((wr.alloc (.cells #[.slice (some ⟨F, 0, none⟩) k k] 44)).alloc (.cells #[.int .i64 (q : Int)] 3)) := ((Below.refl _ wr).alloc (Nat.le_refl _) _).alloc (by simp) _
              have HCC := hide (coll_choices wr.heap.size (wr.heap.size + 1) F k q zs (ls.map pt) (by rw [List.length_map, ← HN.out]; omega) hqq.out hq
                (fun f hf => by obtain ⟨s, hs, rfl⟩ := List.mem_map.1 hf; exact pt_nodup (List.all_eq_true.1 HA2.out s hs)) ((wr.alloc (.cells #[.slice (some ⟨F, 0, none⟩) k k] 44)).alloc (.cells #[.int .i64 (q : Int)] 3)) (by simp; omega) (by simp)
                (by rw [List.length_map, ← HN.out]; exact k1.cell 0) (k2.cell 0) (((unhide HFA).below bb).up (by simp; omega))
                (fun f hf s hs => by obtain ⟨u, _, rfl⟩ := List.mem_map.1 hf; exact pt_size48 u s hs))
              clear HCH k1 k2 bb
              go_wp2_with fail
              refine (unhide HCC).mono ?_
              rintro e w7 ⟨rfl, hb7⟩
              have HB7 := hide ((unhide HB6).trans (hb7.mono (unhide HB6).size))
              clear hb7
              go_wp2_with fail
              go_ret2
              exact ⟨by rw [HQ.out]; rfl, unhide HB7⟩

end Go.Proofs.YtkdlmgahkckjbaaGreat
