/- FinsetMapLaws returns true: Lookup returns what the last Update of a key stored, Delete undoes an Update of a new key, other keys are not affected. Conditions: none but that a slice of numbers has a length. -/
import Derived.Test.YtaambeficfiacaaGreatFmR
namespace Go.Proofs.YtaambeficfiacaaGreat
open Go Go.RowKit Go.Shelf VM

/-- a slice that reads as n bytes -/
def InBy (w : World) (A : Option Addr) (n : Nat) : Prop := n = 0 ∨ ∃ (b off : Nat), A = some ⟨b, off, none⟩ ∧ b < w.heap.size ∧ ∀ k, k < n → ∃ z : Nat, z < 256 ∧ w.cell? ⟨b, off + k, none⟩ = some (.int .u8 (z : Int))
theorem InBy.at1 {w wr : World} {A : Option Addr} {n k : Nat} (h : InBy w A n) (hb : Below w.heap.size w wr) (hk : k < n) : ∃ (b off z : Nat), A = some ⟨b, off, none⟩ ∧ z < 256 ∧ wr.cell? ⟨b, off + k, none⟩ = some (.int .u8 (z : Int)) := by
  rcases h with h0 | ⟨b, off, hA, hlt, hc⟩
  · omega
  · obtain ⟨z, hz, hcc⟩ := hc k hk
    exact ⟨b, off, z, hA, hz, (hb.cell (p := ⟨b, off + k, none⟩) hlt).trans hcc⟩
set_option linter.unusedSimpArgs false in
set_option maxRecDepth 100000 in
set_option maxHeartbeats 12800000 in
theorem finsetMapLaws_any (a0 a1 : Option Addr) (n0 c0 n1 c1 : Nat) (h0 : n0 ≤ maxLen) (h1 : n1 ≤ maxLen) (w : World) (hB : InBy w a0 n0) (hI1 : InInts w a1 n1) :
    Calls Tryz.prog 8 #[.slice a0 n0 c0, .slice a1 n1 c1] w fun e w' => e = .returned (.bool true) ∧ Below w.heap.size w w' := by
  have HC0 := hide (CSt.start (c := c1) hI1)
  have HB0 : Hid (Below w.heap.size w (w.alloc (.cells #[.slice a1 n1 c1, .int .i64 0] 56))) := hide ((Below.refl _ _).alloc (Nat.le_refl _) _)
  have HN0 := Lib.hid h1
  have HNN := Lib.hid h0
  have HBY := hide hB
  have HV1 := hide (value_st 1 (by decide) (by decide))
  have HRI := Lib.hid (fun z w => rint_any z w)
  have HE := Lib.hid (fun w => rmap_any [] [] none none 0 0 0 0 w rfl rfl (by omega) (by omega) (fun s h => by cases h) (fun s h => by cases h) (InC.nil _ _) (InC.nil _ _))
  have HM0 := Lib.hid mst_start
  generalize mapM [] [] = m0 at *
  clear hI1 h0 h1 hB
  go_enter Tryz.func8, Tryz.ntmps8
  go_wp2_with fail
  refine (new_cho w a1 n1 c1).mono ?_
  rintro e w1 ⟨rfl, rfl⟩
  have hg1 : w.heap.size < (w.alloc (.cells #[.slice a1 n1 c1, .int .i64 0] 56)).heap.size := by simp
  generalize w.alloc (.cells #[.slice a1 n1 c1, .int .i64 0] 56) = w1 at *
  obtain ⟨g0, hg0⟩ : ∃ g0, g0 = w.heap.size := ⟨_, rfl⟩
  rw [← hg0] at HC0 hg1 ⊢
  have HW : Hid (g0 = w.heap.size) := Lib.hid hg0
  clear hg0
  go_wp2_with fail
  refine (HE.out _).mono ?_
  rintro e w2 ⟨rfl, hb2⟩
  have HC2 := hide ((unhide HC0).below hb2)
  have HB2 := hide ((unhide HB0).trans (hb2.mono (unhide HB0).size))
  have hg2 : g0 < w2.heap.size := Nat.lt_of_lt_of_le hg1 hb2.size
  clear hb2 HC0 HB0
  go_wp2_with fail
  have HBK : Hid (Blk (w2.alloc (.cells #[.string ⟨#[]⟩, .string ⟨#[]⟩, .string ⟨#[]⟩, .string ⟨#[]⟩, .string ⟨#[]⟩, .string ⟨#[]⟩, .string ⟨#[]⟩, .string ⟨#[]⟩] 52)) w2.heap.size 52 (((List.replicate 8 ⟨#[]⟩ : List ByteArray).map Value.string).toArray)) := hide (Blk.new _ _ _)
  have HC3 := hide ((unhide HC2).alloc (.cells #[.string ⟨#[]⟩, .string ⟨#[]⟩, .string ⟨#[]⟩, .string ⟨#[]⟩, .string ⟨#[]⟩, .string ⟨#[]⟩, .string ⟨#[]⟩, .string ⟨#[]⟩] 52))
  have HB3 := hide ((unhide HB2).alloc (unhide HB2).size (.cells #[.string ⟨#[]⟩, .string ⟨#[]⟩, .string ⟨#[]⟩, .string ⟨#[]⟩, .string ⟨#[]⟩, .string ⟨#[]⟩, .string ⟨#[]⟩, .string ⟨#[]⟩] 52))
  generalize w2.alloc (.cells #[.string ⟨#[]⟩, .string ⟨#[]⟩, .string ⟨#[]⟩, .string ⟨#[]⟩, .string ⟨#[]⟩, .string ⟨#[]⟩, .string ⟨#[]⟩, .string ⟨#[]⟩] 52) = w3 at *
  have hgb : w.heap.size ≤ w2.heap.size := (unhide HB2).size
  generalize w2.heap.size = gw at *
  have HMZ : Hid (m0.size ≤ 131072) := Lib.hid ((tree_val (Nat.le_refl _) (isK_valid HM0.out.1).1).2.2)
  clear HC2 HB2
  go_loopw [6, 8] (fun mv iv wr => ∃ (i : Nat) (m : ByteArray) (ws : List ByteArray), mv = .string m ∧ iv = .int .i64 i ∧ i ≤ 30 ∧ Hid (MSt m ws) ∧ Hid (m.size ≤ 131072) ∧ Hid (Blk wr gw 52 ((ws.map Value.string).toArray)) ∧ Hid (CSt wr g0 a1 n1 c1) ∧ Hid (Below w.heap.size w wr)) (fun _ iv _ => 30 - (intOf iv).toNat)
  case atStart => exact ⟨0, m0, _, rfl, rfl, by omega, HM0.out, HMZ.out, unhide HBK, unhide HC3, unhide HB3⟩
  case round =>
    obtain ⟨i, m, ws, rfl, rfl, hi, hM, hmz, hK, hC, hB⟩ := hrel
    clear HBK HC3 HB3 HM0 HMZ
    by_cases hin : i < n0
    · by_cases hi3 : i < 30
      · obtain ⟨b, off, z, hA, hz, hcz⟩ := (unhide HBY).at1 hB.out hin
        subst hA
        obtain ⟨j, hj⟩ : ∃ j, j = z % 8 := ⟨_, rfl⟩
        have gz : ((z : Int) % 8) = (j : Int) := by omega
        have hj8 : j < 8 := by omega
        obtain ⟨u, hu⟩ : ∃ u, ws[j]? = some u := ⟨ws[j]'(by rw [hM.out.2.1]; exact hj8), List.getElem?_eq_getElem _⟩
        have HU := Lib.hid hu
        have HPU := Lib.hid (fun (y : ByteArray) (hy : valB 31 y = true ∧ y.size ≤ 9) => mst_upd hM.out hj8 hy)
        have HIS := Lib.hid (int_ok j)
        have hgl : gw < wr.heap.size := hK.out.lt
        have HWL := Lib.hid hM.out.2.1
        clear hj hu hM
        go_wp2_with fail
        rw [gz]
        clear gz
        refine ((unhide HV1) 1 rfl wr g0 a1 n1 c1 hC.out HN0.out).mono ?_
        rintro e w4 ⟨y, rfl, hy, hC4, hG4⟩
        have HY : Hid (valB 31 y = true ∧ y.size ≤ 9) := Lib.hid ⟨valB_le (by decide) hy.1, by have := hy.2; simp at this; omega⟩
        have HC4 := hide hC4
        have HK4 := hide (hK.out.grown hG4 (fun e => by have := Option.some.inj e; omega))
        have HB4 := hide (below_grown hB.out hG4 (Nat.le_of_eq HW.out.symm) (Nat.le_refl _))
        clear hy hC4 hG4 hK hC hB
        obtain ⟨n, hn1, hn2, hn3, hn4⟩ := HPU.out y HY.out
        have HD1 := Lib.hid (fun w => pUpdate_any m (intB (j : Int)) y (by have := hmz.out; omega) (by have := HIS.out.2; omega) (by have := HY.out.2; omega) w)
        have HD2 := Lib.hid (fun w => pDelete_any n (intB (j : Int)) (by omega) (by have := HIS.out.2; omega) w)
        rw [hn1] at HD1
        unfold RetV at HD1 HD2
        have HRJ := Lib.hid (fun w => rint_any (j : Int) w)
        have HN2 := Lib.hid hn2
        have HN3 := Lib.hid hn3
        have HN4 := Lib.hid hn4
        clear hn1 hn2 hn3 hn4 HPU
        generalize intB (j : Int) = kj at *
        go_wp2_with fail
        refine (HRJ.out _).mono ?_
        rintro e w5 ⟨rfl, hb5⟩
        have HC5 := hide ((unhide HC4).below hb5)
        have HK5 := hide ((unhide HK4).below hb5 (unhide HK4).lt)
        have HB5 := hide ((unhide HB4).trans (hb5.mono (unhide HB4).size))
        clear hb5 HC4 HK4 HB4
        go_wp2_with fail
        refine (HD1.out _).mono ?_
        rintro e w6 ⟨rfl, hb6⟩
        have HC6 := hide ((unhide HC5).below hb6)
        have HK6 := hide ((unhide HK5).below hb6 (unhide HK5).lt)
        have HB6 := hide ((unhide HB5).trans (hb6.mono (unhide HB5).size))
        clear hb6 HC5 HK5 HB5
        have hcell : w6.cell? ⟨gw, j, none⟩ = some (.string u) := by rw [(unhide HK6).cell]; simp [HU.out]
        have hfr := (unhide HK6).frozen j
        by_cases hue : u = ⟨#[]⟩
        · have hdm := HN3.out (by rw [HU.out, hue])
          rw [hdm] at HD2
          subst hue
          have htl := tl_self m
          clear hdm
          go_wp2_with fail
          refine (HRJ.out _).mono ?_
          rintro e w7 ⟨rfl, hb7⟩
          have HC7 := hide ((unhide HC6).below hb7)
          have HK7 := hide ((unhide HK6).below hb7 (unhide HK6).lt)
          have HB7 := hide ((unhide HB6).trans (hb7.mono (unhide HB6).size))
          clear hb7 HC6 HK6 HB6
          go_wp2_with fail
          refine (HD2.out _).mono ?_
          rintro e w8 ⟨rfl, hb8⟩
          have HC8 := hide ((unhide HC7).below hb8)
          have HK8 := hide ((unhide HK7).below hb8 (unhide HK7).lt)
          have HB8 := hide ((unhide HB7).trans (hb8.mono (unhide HB7).size))
          clear hb8 HC7 HK7 HB7
          have hcell8 : w8.cell? ⟨gw, j, none⟩ = some (.string ⟨#[]⟩) := by rw [(unhide HK8).cell]; simp [HU.out]
          have hfr8 := (unhide HK8).frozen j
          go_wp2_with fail
          go_roundw
          case rel => exact ⟨i + 1, n, ws.set j y, rfl, by go_num, by omega, HN2.out, HN4.out, by rw [List.map_set, ← List.setIfInBounds_toArray]; exact (unhide HK8).set_ j _, (unhide HC8).row (only_set (only_refl _ (some gw)) j _) (fun q e => by have := Option.some.inj e; omega), (unhide HB8).setCell hgb _⟩
          case measure => simp [intOf]; omega
        · have hl : u.toList.isEmpty = false := by
            rw [Bool.eq_false_iff]
            intro h
            have := isEmpty_toList u
            rw [List.isEmpty_iff.1 h, decide_eq_false hue] at this
            cases this
          go_wp2_with fail
          go_roundw
          case rel => exact ⟨i + 1, n, ws.set j y, rfl, by go_num, by omega, HN2.out, HN4.out, by rw [List.map_set, ← List.setIfInBounds_toArray]; exact (unhide HK6).set_ j _, (unhide HC6).row (only_set (only_refl _ (some gw)) j _) (fun q e => by have := Option.some.inj e; omega), (unhide HB6).setCell hgb _⟩
          case measure => simp [intOf]; omega
      · go_wp2_with fail
        go_loopw [15] (fun kv wr => ∃ k : Nat, kv = .int .i64 k ∧ k ≤ 8 ∧ Hid (Blk wr gw 52 ((ws.map Value.string).toArray)) ∧ Hid (Below w.heap.size w wr)) (fun kv _ => 8 - (intOf kv).toNat)
        case atStart => exact ⟨0, rfl, by omega, hK.out, hB.out⟩
        case round =>
          obtain ⟨k, rfl, hk, hK2, hB2⟩ := hrel
          clear hK hC hB
          by_cases hk8 : k < 8
          · obtain ⟨u, hu⟩ : ∃ u, ws[k]? = some u := ⟨ws[k]'(by rw [hM.out.2.1]; exact hk8), List.getElem?_eq_getElem _⟩
            have HU := Lib.hid hu
            have HRJ := Lib.hid (fun w => rint_any (k : Int) w)
            have HD1 := Lib.hid (fun w => pLookup_any m (intB (k : Int)) (by have := hmz.out; omega) (by have := (int_ok k).2; omega) w)
            have HD2 := Lib.hid (fun w => pHasKey_any m (intB (k : Int)) (by have := hmz.out; omega) (by have := (int_ok k).2; omega) w)
            unfold RetV at HD1
            unfold RetB at HD2
            have hgl : gw < wr.heap.size := hK2.out.lt
            by_cases hue : u = ⟨#[]⟩
            · obtain ⟨e1, e2⟩ := mst_no hM.out hk8 (hue ▸ hu)
              rw [e1] at HD1
              rw [e2] at HD2
              subst hue
              generalize intB (k : Int) = kj at *
              have HK4 := hide hK2.out
              have HB4 := hide hB2.out
              clear e1 e2 hu hK2 hB2
              go_wp2_with fail
              refine (HRJ.out _).mono ?_
              rintro e w5 ⟨rfl, hb5⟩
              have HK5 := hide ((unhide HK4).below hb5 (unhide HK4).lt)
              have HB5 := hide ((unhide HB4).trans (hb5.mono (unhide HB4).size))
              clear hb5 HK4 HB4
              go_wp2_with fail
              refine (HD1.out _).mono ?_
              rintro e w6 ⟨rfl, hb6⟩
              have HK6 := hide ((unhide HK5).below hb6 (unhide HK5).lt)
              have HB6 := hide ((unhide HB5).trans (hb6.mono (unhide HB5).size))
              clear hb6 HK5 HB5
              go_wp2_with fail
              refine (HRJ.out _).mono ?_
              rintro e w7 ⟨rfl, hb7⟩
              have HK7 := hide ((unhide HK6).below hb7 (unhide HK6).lt)
              have HB7 := hide ((unhide HB6).trans (hb7.mono (unhide HB6).size))
              clear hb7 HK6 HB6
              go_wp2_with fail
              refine (HD2.out _).mono ?_
              rintro e w8 ⟨rfl, hb8⟩
              have HK8 := hide ((unhide HK7).below hb8 (unhide HK7).lt)
              have HB8 := hide ((unhide HB7).trans (hb8.mono (unhide HB7).size))
              clear hb8 HK7 HB7
              have hcell : w8.cell? ⟨gw, k, none⟩ = some (.string ⟨#[]⟩) := by rw [(unhide HK8).cell]; simp [HU.out]
              have htl := tl_self ⟨#[]⟩
              go_wp2_with fail
              go_roundw
              case rel => exact ⟨k + 1, by go_num, by omega, unhide HK8, unhide HB8⟩
              case measure => simp [intOf]; omega
            · obtain ⟨e1, e2⟩ := mst_yes hM.out hk8 hu hue
              rw [e1] at HD1
              rw [e2] at HD2
              have hl : u.toList.isEmpty = false := by
                rw [Bool.eq_false_iff]
                intro h
                have := isEmpty_toList u
                rw [List.isEmpty_iff.1 h, decide_eq_false hue] at this
                cases this
              generalize intB (k : Int) = kj at *
              have HK4 := hide hK2.out
              have HB4 := hide hB2.out
              clear e1 e2 hu hK2 hB2
              go_wp2_with fail
              refine (HRJ.out _).mono ?_
              rintro e w5 ⟨rfl, hb5⟩
              have HK5 := hide ((unhide HK4).below hb5 (unhide HK4).lt)
              have HB5 := hide ((unhide HB4).trans (hb5.mono (unhide HB4).size))
              clear hb5 HK4 HB4
              go_wp2_with fail
              refine (HD1.out _).mono ?_
              rintro e w6 ⟨rfl, hb6⟩
              have HK6 := hide ((unhide HK5).below hb6 (unhide HK5).lt)
              have HB6 := hide ((unhide HB5).trans (hb6.mono (unhide HB5).size))
              clear hb6 HK5 HB5
              go_wp2_with fail
              refine (HRJ.out _).mono ?_
              rintro e w7 ⟨rfl, hb7⟩
              have HK7 := hide ((unhide HK6).below hb7 (unhide HK6).lt)
              have HB7 := hide ((unhide HB6).trans (hb7.mono (unhide HB6).size))
              clear hb7 HK6 HB6
              go_wp2_with fail
              refine (HD2.out _).mono ?_
              rintro e w8 ⟨rfl, hb8⟩
              have HK8 := hide ((unhide HK7).below hb8 (unhide HK7).lt)
              have HB8 := hide ((unhide HB7).trans (hb8.mono (unhide HB7).size))
              clear hb8 HK7 HB7
              have hcell : w8.cell? ⟨gw, k, none⟩ = some (.string u) := by rw [(unhide HK8).cell]; simp [HU.out]
              have htl := tl_self u
              go_wp2_with fail
              go_roundw
              case rel => exact ⟨k + 1, by go_num, by omega, unhide HK8, unhide HB8⟩
              case measure => simp [intOf]; omega
          · go_wp2_with fail
            refine (fawake_any _).mono ?_
            rintro e w30 ⟨rfl, hb30⟩
            have HB30 := hide (hB2.out.trans (hb30.mono hB2.out.size))
            clear hb30
            go_wp2_with fail
            go_ret
            exact ⟨rfl, unhide HB30⟩
    · go_wp2_with fail
      go_loopw [15] (fun kv wr => ∃ k : Nat, kv = .int .i64 k ∧ k ≤ 8 ∧ Hid (Blk wr gw 52 ((ws.map Value.string).toArray)) ∧ Hid (Below w.heap.size w wr)) (fun kv _ => 8 - (intOf kv).toNat)
      case atStart => exact ⟨0, rfl, by omega, hK.out, hB.out⟩
      case round =>
        obtain ⟨k, rfl, hk, hK2, hB2⟩ := hrel
        clear hK hC hB
        by_cases hk8 : k < 8
        · obtain ⟨u, hu⟩ : ∃ u, ws[k]? = some u := ⟨ws[k]'(by rw [hM.out.2.1]; exact hk8), List.getElem?_eq_getElem _⟩
          have HU := Lib.hid hu
          have HRJ := Lib.hid (fun w => rint_any (k : Int) w)
          have HD1 := Lib.hid (fun w => pLookup_any m (intB (k : Int)) (by have := hmz.out; omega) (by have := (int_ok k).2; omega) w)
          have HD2 := Lib.hid (fun w => pHasKey_any m (intB (k : Int)) (by have := hmz.out; omega) (by have := (int_ok k).2; omega) w)
          unfold RetV at HD1
          unfold RetB at HD2
          have hgl : gw < wr.heap.size := hK2.out.lt
          by_cases hue : u = ⟨#[]⟩
          · obtain ⟨e1, e2⟩ := mst_no hM.out hk8 (hue ▸ hu)
            rw [e1] at HD1
            rw [e2] at HD2
            subst hue
            generalize intB (k : Int) = kj at *
            have HK4 := hide hK2.out
            have HB4 := hide hB2.out
            clear e1 e2 hu hK2 hB2
            go_wp2_with fail
            refine (HRJ.out _).mono ?_
            rintro e w5 ⟨rfl, hb5⟩
            have HK5 := hide ((unhide HK4).below hb5 (unhide HK4).lt)
            have HB5 := hide ((unhide HB4).trans (hb5.mono (unhide HB4).size))
            clear hb5 HK4 HB4
            go_wp2_with fail
            refine (HD1.out _).mono ?_
            rintro e w6 ⟨rfl, hb6⟩
            have HK6 := hide ((unhide HK5).below hb6 (unhide HK5).lt)
            have HB6 := hide ((unhide HB5).trans (hb6.mono (unhide HB5).size))
            clear hb6 HK5 HB5
            go_wp2_with fail
            refine (HRJ.out _).mono ?_
            rintro e w7 ⟨rfl, hb7⟩
            have HK7 := hide ((unhide HK6).below hb7 (unhide HK6).lt)
            have HB7 := hide ((unhide HB6).trans (hb7.mono (unhide HB6).size))
            clear hb7 HK6 HB6
            go_wp2_with fail
            refine (HD2.out _).mono ?_
            rintro e w8 ⟨rfl, hb8⟩
            have HK8 := hide ((unhide HK7).below hb8 (unhide HK7).lt)
            have HB8 := hide ((unhide HB7).trans (hb8.mono (unhide HB7).size))
            clear hb8 HK7 HB7
            have hcell : w8.cell? ⟨gw, k, none⟩ = some (.string ⟨#[]⟩) := by rw [(unhide HK8).cell]; simp [HU.out]
            have htl := tl_self ⟨#[]⟩
            go_wp2_with fail
            go_roundw
            case rel => exact ⟨k + 1, by go_num, by omega, unhide HK8, unhide HB8⟩
            case measure => simp [intOf]; omega
          · obtain ⟨e1, e2⟩ := mst_yes hM.out hk8 hu hue
            rw [e1] at HD1
            rw [e2] at HD2
            have hl : u.toList.isEmpty = false := by
              rw [Bool.eq_false_iff]
              intro h
              have := isEmpty_toList u
              rw [List.isEmpty_iff.1 h, decide_eq_false hue] at this
              cases this
            generalize intB (k : Int) = kj at *
            have HK4 := hide hK2.out
            have HB4 := hide hB2.out
            clear e1 e2 hu hK2 hB2
            go_wp2_with fail
            refine (HRJ.out _).mono ?_
            rintro e w5 ⟨rfl, hb5⟩
            have HK5 := hide ((unhide HK4).below hb5 (unhide HK4).lt)
            have HB5 := hide ((unhide HB4).trans (hb5.mono (unhide HB4).size))
            clear hb5 HK4 HB4
            go_wp2_with fail
            refine (HD1.out _).mono ?_
            rintro e w6 ⟨rfl, hb6⟩
            have HK6 := hide ((unhide HK5).below hb6 (unhide HK5).lt)
            have HB6 := hide ((unhide HB5).trans (hb6.mono (unhide HB5).size))
            clear hb6 HK5 HB5
            go_wp2_with fail
            refine (HRJ.out _).mono ?_
            rintro e w7 ⟨rfl, hb7⟩
            have HK7 := hide ((unhide HK6).below hb7 (unhide HK6).lt)
            have HB7 := hide ((unhide HB6).trans (hb7.mono (unhide HB6).size))
            clear hb7 HK6 HB6
            go_wp2_with fail
            refine (HD2.out _).mono ?_
            rintro e w8 ⟨rfl, hb8⟩
            have HK8 := hide ((unhide HK7).below hb8 (unhide HK7).lt)
            have HB8 := hide ((unhide HB7).trans (hb8.mono (unhide HB7).size))
            clear hb8 HK7 HB7
            have hcell : w8.cell? ⟨gw, k, none⟩ = some (.string u) := by rw [(unhide HK8).cell]; simp [HU.out]
            have htl := tl_self u
            go_wp2_with fail
            go_roundw
            case rel => exact ⟨k + 1, by go_num, by omega, unhide HK8, unhide HB8⟩
            case measure => simp [intOf]; omega
        · go_wp2_with fail
          refine (fawake_any _).mono ?_
          rintro e w30 ⟨rfl, hb30⟩
          have HB30 := hide (hB2.out.trans (hb30.mono hB2.out.size))
          clear hb30
          go_wp2_with fail
          go_ret
          exact ⟨rfl, unhide HB30⟩

end Go.Proofs.YtaambeficfiacaaGreat
