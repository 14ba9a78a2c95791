/- finset.merge at two ascending lists, by the selection inBoth. Conditions: at most 524288 strings of at most 131072 bytes. -/
-- by tools/gen_fnf.py
import Derived.Test.YtkdlmgahkckjbaaGreatFnF
namespace Go.Proofs.YtkdlmgahkckjbaaGreat
open Go.RowKit Go.Shelf VM

theorem keepB (p q : Bool) (w : World) : Calls Tryz.prog 53 #[.bool p, .bool q] w fun e w' => e = .returned (.bool ((fun p q => p && q) p q)) ∧ w' = w := by
  cases p <;> cases q
  all_goals
    go_enter Tryz.func53, Tryz.ntmps53
    go_wp2
    go_ret
    exact ⟨rfl, rfl⟩
set_option linter.unusedSimpArgs false in
set_option maxRecDepth 100000 in
set_option maxHeartbeats 12800000 in
theorem mergeB (a b : List ByteArray) (A B : Option Addr) (n m ca cb : Nat) (w : World) (hn : n = a.length) (hm : m = b.length) (hn1 : n ≤ 524288) (hm1 : m ≤ 524288) (ha : Asc a) (hb : Asc b) (hsa : ∀ s ∈ a, s.size ≤ 131072) (hsb : ∀ s ∈ b, s.size ≤ 131072) (hA : InC w A (a.map Value.string)) (hB : InC w B (b.map Value.string)) :
    Calls Tryz.prog 52 #[.slice A n ca, .slice B m cb, .func (.func 53) #[] #[]] w (RowR w (mrg (fun p q => p && q) a b)) := by
  obtain ⟨i0, hi0, hiz0, hiz1, hiz2⟩ := info_parts val_info
  have HA := hide hA
  have HBB := hide hB
  have HN := Lib.hid hn
  have HM := Lib.hid hm
  have HCC := Lib.hid (fun X cx w hA hB hX => concat_any a b A B X n m ca cb cx w hn hm (by omega) (by omega) hA hB hX)
  have HSO := Lib.hid (fun S L c w (hL : L = (a ++ b).length) hS => psort_any (a ++ b) S L c w hL (by rw [hL, List.length_append]; omega) (fun s hs => by
    rcases List.mem_append.1 hs with h | h
    · have := hsa s h; omega
    · have := hsb s h; omega) hS)
  have hso := sortM_asc (a ++ b)
  have HSA := Lib.hid (fun k v hk => cnt_step ha hso (fun u hu => sortM_mem.2 (List.mem_append_left _ hu)) (k := k) (v := v) hk)
  have HSB := Lib.hid (fun k v hk => cnt_step hb hso (fun u hu => sortM_mem.2 (List.mem_append_right _ hu)) (k := k) (v := v) hk)
  have HMR : Hid (mrg (fun p q => p && q) a b = (sortM (a ++ b)).filter fun v => (fun p q => p && q) (hasB v a) (hasB v b)) := Lib.hid rfl
  have hll := sortM_len (a ++ b)
  rw [List.length_append, ← hn, ← hm] at hll
  have HLL := Lib.hid (fun L (hL : L = (sortM (a ++ b)).length) => show L ≤ 1048576 by omega)
  generalize mrg (fun p q => p && q) a b = r at *
  generalize sortM (a ++ b) = so at *
  clear hA hB hn hm ha hb hsa hsb hso hll
  go_enter Tryz.func52, Tryz.ntmps52
  go_wp2_with fail
  have hal : Below w.heap.size w (w.alloc (.cells #[.slice A n ca, .slice B m cb] 22)) := (Below.refl _ _).alloc (Nat.le_refl _) _
  refine (HCC.out _ _ _ ((unhide HA).alloc _) ((unhide HBB).alloc _) (new_in w 22 #[.slice A n ca, .slice B m cb])).mono ?_
  rintro e w2 ⟨S2, c2, n2, rfl, hn2, hO2, hb2⟩
  have HB2 := hide (hal.trans (hb2.mono hal.size))
  have HI2 := hide (InC.own hO2)
  have HN2 := Lib.hid hn2
  clear hal hb2 hO2 hn2
  go_wp2_with fail
  refine (HSO.out _ _ _ _ HN2.out (unhide HI2)).mono ?_
  rintro e w3 ⟨S3, c3, L, rfl, hL, hO3, hb3⟩
  have HB3 := hide ((unhide HB2).trans (hb3.mono (unhide HB2).size))
  have HI3 := hide (InC.own hO3)
  have HL := Lib.hid hL
  have hl1 := HLL.out L hL
  have HA3 := hide ((unhide HA).below (unhide HB3))
  have HBB3 := hide ((unhide HBB).below (unhide HB3))
  clear hb3 hO3 hL HB2 HI2
  go_wp2_with fail
  go_loopw [7, 8, 9, 20] (fun kv iv jv xv wr => ∃ (k q : Nat) (ks : List ByteArray), xv = .int .i64 k ∧ k ≤ L ∧ iv = .int .i64 (cnt a so k : Nat) ∧ jv = .int .i64 (cnt b so k : Nat) ∧ q ≤ k ∧ Hid (q = ks.length) ∧ Hid (ks = (so.take k).filter fun v => (fun p q => p && q) (hasB v a) (hasB v b)) ∧ Hid (wr.ownsRow w3.heap.size 27 1 kv q (ks.map Value.string)) ∧ Hid (Below w3.heap.size w3 wr)) (fun _ _ _ xv _ => L - (intOf xv).toNat)
  case atStart => exact ⟨0, 0, [], rfl, by omega, rfl, rfl, by omega, rfl, rfl, World.ownsRow_nil _ _ _ _, Below.refl _ _⟩
  case round =>
    obtain ⟨k, q, ks, rfl, hk, rfl, rfl, hqk, hql, hks, hO, hB⟩ := hrel
    obtain ⟨A4, c4, rfl⟩ := owns_form hO.out
    by_cases hkL : k < L
    · have gk : decide ((k : Int) < (L : Int)) = true := decide_eq_true (by omega)
      obtain ⟨v, hv⟩ : ∃ v, so[k]? = some v := ⟨so[k]'(by have := HL.out; omega), List.getElem?_eq_getElem _⟩
      have hca := HSA.out k v hv
      have hcb := HSB.out k v hv
      have HSTEP := Lib.hid (mrg_step (fun p q => p && q) (a := a) (b := b) hv)
      obtain ⟨b5, o5, hS3, hb5, hc5⟩ := at1s ((unhide HI3).below hB.out) (i := k) (u := .string v) (by rw [List.getElem?_map, hv]; rfl)
      subst hS3
      have HAr := hide ((unhide HA3).below hB.out)
      have HBr := hide ((unhide HBB3).below hB.out)
      generalize cnt a so k = i at *
      generalize cnt b so k = j at *
      obtain ⟨i2, hi2⟩ : ∃ i, cnt a so (k + 1) = i := ⟨_, rfl⟩
      obtain ⟨j2, hj2⟩ : ∃ i, cnt b so (k + 1) = i := ⟨_, rfl⟩
      have HI2 := Lib.hid hi2
      have HJ2 := Lib.hid hj2
      rw [hi2] at hca
      rw [hj2] at hcb
      clear hi2 hj2
      have hsz := hB.out.size
      have HO4 := hide (hO.out.alloc (.cells #[.string v] 27))
      have HB4 := hide (hB.out.alloc hsz (.cells #[.string v] 27))
      have hz4 : w3.heap.size ≤ (wr.alloc (.cells #[.string v] 27)).heap.size := by simp; omega
      clear hv
      rcases hca with ⟨pa, ia, ca2, ea⟩ | ⟨pa, ea, ia | ⟨ua, ia, ca2, na⟩⟩ <;> rcases hcb with ⟨pb, ib, cb2, eb⟩ | ⟨pb, eb, ib | ⟨ub, ib, cb2, nb⟩⟩
      · subst ea
        subst eb
        rw [pa, pb] at HSTEP
        have lin : i < n := by have := HN.out; omega
        have gi : decide (i < n) = true := decide_eq_true lin
        obtain ⟨xi, yi, ei, li, hi⟩ := at1s (unhide HAr) (i := i) (u := .string v) (by rw [List.getElem?_map, ca2]; rfl)
        subst ei
        have si : (v.toList == v.toList) = true := by rw [toList_bool]; exact decide_eq_true rfl
        have ljn : j < m := by have := HM.out; omega
        have gj : decide (j < m) = true := decide_eq_true ljn
        obtain ⟨xj, yj, ej, lj, hj⟩ := at1s (unhide HBr) (i := j) (u := .string v) (by rw [List.getElem?_map, cb2]; rfl)
        subst ej
        have sj : (v.toList == v.toList) = true := by rw [toList_bool]; exact decide_eq_true rfl
        clear ia ib HSO HCC HSA HSB
        go_wp2_with fail
        go_quiet (fail)
        have HO3 := hide (owns_below hO.out (below_drewN (Below.refl _ wr) nq))
        have HB3q := hide (below_drewN hB.out nq)
        generalize wr.drewN nq = w4 at *
        clear hO hB hc5 HO4 HB4 hz4
        go_wp2_with fail
        refine (keepB true true _).mono ?_
        rintro e w5 ⟨rfl, rfl⟩
        have HO4 := hide ((unhide HO3).alloc (.cells #[.string v] 27))
        have HB4 := hide ((unhide HB3q).alloc (unhide HB3q).size (.cells #[.string v] 27))
        have hz4 := (unhide HB4).size
        have HKS : Hid (ks ++ [v] = (so.take (k + 1)).filter fun v => (fun p q => p && q) (hasB v a) (hasB v b)) := Lib.hid (by rw [HSTEP.out, ← hks.out]; rfl)
        have HQL : Hid (q + 1 = (ks ++ [v]).length) := Lib.hid (by rw [List.length_append, ← hql.out]; rfl)
        clear HSTEP hks hql
        go_wp2_with (at_builtin; refine wpList_app _ rfl _ _ 22 rfl w3.heap.size 27 i0 _ 1 16 Tryz.underlying22 hi0 hiz0 hiz1 hiz2 rfl (by decide) _ q (ks.map Value.string) rfl (unhide HO4) (some ⟨w5.heap.size, 0, none⟩) 1 1 [.string v] rfl rfl (new_in w5 27 #[.string v]) (one_str v) (by unfold maxLen; omega) (by omega) hz4 ?_; intro v6 w6 hown6 hgrow6 _)
        have HB6 := hide (below_app (unhide HB4) (unhide HO4) hgrow6)
        have HO6 : Hid (w6.ownsRow w3.heap.size 27 1 v6 (q + 1) ((ks ++ [v]).map Value.string)) := hide (by rw [List.map_append]; exact hown6)
        clear hown6 hgrow6
        go_wp2_with fail
        go_roundw
        case rel => exact ⟨k + 1, q + 1, ks ++ [v], by go_num, by omega, by rw [HI2.out]; first | done | go_num, by rw [HJ2.out]; first | done | go_num, by omega, HQL.out, HKS.out, unhide HO6, unhide HB6⟩
        case measure => simp [intOf]; omega
      · subst ea
        obtain rfl : j = j2 := eb.symm
        rw [pa, pb] at HSTEP
        have lin : i < n := by have := HN.out; omega
        have gi : decide (i < n) = true := decide_eq_true lin
        obtain ⟨xi, yi, ei, li, hi⟩ := at1s (unhide HAr) (i := i) (u := .string v) (by rw [List.getElem?_map, ca2]; rfl)
        subst ei
        have si : (v.toList == v.toList) = true := by rw [toList_bool]; exact decide_eq_true rfl
        have gj : decide (j < m) = false := decide_eq_false (by have := HM.out; omega)
        clear ia ib HSO HCC HSA HSB
        go_wp2_with fail
        go_quiet (fail)
        have HO3 := hide (owns_below hO.out (below_drewN (Below.refl _ wr) nq))
        have HB3q := hide (below_drewN hB.out nq)
        generalize wr.drewN nq = w4 at *
        clear hO hB hc5 HO4 HB4 hz4
        go_wp2_with fail
        refine (keepB true false _).mono ?_
        rintro e w5 ⟨rfl, rfl⟩
        have HKS : Hid (ks = (so.take (k + 1)).filter fun v => (fun p q => p && q) (hasB v a) (hasB v b)) := Lib.hid (by rw [HSTEP.out, ← hks.out]; simp)
        clear HSTEP hks
        go_wp2_with fail
        go_roundw
        case rel => exact ⟨k + 1, q, ks, by go_num, by omega, by rw [HI2.out]; first | done | go_num, by rw [HJ2.out]; first | done | go_num, by omega, hql.out, HKS.out, unhide HO3, unhide HB3q⟩
        case measure => simp [intOf]; omega
      · subst ea
        obtain rfl : j = j2 := eb.symm
        rw [pa, pb] at HSTEP
        have lin : i < n := by have := HN.out; omega
        have gi : decide (i < n) = true := decide_eq_true lin
        obtain ⟨xi, yi, ei, li, hi⟩ := at1s (unhide HAr) (i := i) (u := .string v) (by rw [List.getElem?_map, ca2]; rfl)
        subst ei
        have si : (v.toList == v.toList) = true := by rw [toList_bool]; exact decide_eq_true rfl
        have ljn : j < m := by have := HM.out; omega
        have gj : decide (j < m) = true := decide_eq_true ljn
        obtain ⟨xj, yj, ej, lj, hj⟩ := at1s (unhide HBr) (i := j) (u := .string ub) (by rw [List.getElem?_map, cb2]; rfl)
        subst ej
        have sj : (ub.toList == v.toList) = false := by rw [toList_bool]; exact decide_eq_false (fun e => nb e.symm)
        clear ia ib HSO HCC HSA HSB
        go_wp2_with fail
        go_quiet (fail)
        have HO3 := hide (owns_below hO.out (below_drewN (Below.refl _ wr) nq))
        have HB3q := hide (below_drewN hB.out nq)
        generalize wr.drewN nq = w4 at *
        clear hO hB hc5 HO4 HB4 hz4
        go_wp2_with fail
        refine (keepB true false _).mono ?_
        rintro e w5 ⟨rfl, rfl⟩
        have HKS : Hid (ks = (so.take (k + 1)).filter fun v => (fun p q => p && q) (hasB v a) (hasB v b)) := Lib.hid (by rw [HSTEP.out, ← hks.out]; simp)
        clear HSTEP hks
        go_wp2_with fail
        go_roundw
        case rel => exact ⟨k + 1, q, ks, by go_num, by omega, by rw [HI2.out]; first | done | go_num, by rw [HJ2.out]; first | done | go_num, by omega, hql.out, HKS.out, unhide HO3, unhide HB3q⟩
        case measure => simp [intOf]; omega
      · obtain rfl : i = i2 := ea.symm
        subst eb
        rw [pa, pb] at HSTEP
        have gi : decide (i < n) = false := decide_eq_false (by have := HN.out; omega)
        have ljn : j < m := by have := HM.out; omega
        have gj : decide (j < m) = true := decide_eq_true ljn
        obtain ⟨xj, yj, ej, lj, hj⟩ := at1s (unhide HBr) (i := j) (u := .string v) (by rw [List.getElem?_map, cb2]; rfl)
        subst ej
        have sj : (v.toList == v.toList) = true := by rw [toList_bool]; exact decide_eq_true rfl
        clear ia ib HSO HCC HSA HSB
        go_wp2_with fail
        go_quiet (fail)
        have HO3 := hide (owns_below hO.out (below_drewN (Below.refl _ wr) nq))
        have HB3q := hide (below_drewN hB.out nq)
        generalize wr.drewN nq = w4 at *
        clear hO hB hc5 HO4 HB4 hz4
        go_wp2_with fail
        refine (keepB false true _).mono ?_
        rintro e w5 ⟨rfl, rfl⟩
        have HKS : Hid (ks = (so.take (k + 1)).filter fun v => (fun p q => p && q) (hasB v a) (hasB v b)) := Lib.hid (by rw [HSTEP.out, ← hks.out]; simp)
        clear HSTEP hks
        go_wp2_with fail
        go_roundw
        case rel => exact ⟨k + 1, q, ks, by go_num, by omega, by rw [HI2.out]; first | done | go_num, by rw [HJ2.out]; first | done | go_num, by omega, hql.out, HKS.out, unhide HO3, unhide HB3q⟩
        case measure => simp [intOf]; omega
      · obtain rfl : i = i2 := ea.symm
        obtain rfl : j = j2 := eb.symm
        rw [pa, pb] at HSTEP
        have gi : decide (i < n) = false := decide_eq_false (by have := HN.out; omega)
        have gj : decide (j < m) = false := decide_eq_false (by have := HM.out; omega)
        clear ia ib HSO HCC HSA HSB
        go_wp2_with fail
        go_quiet (fail)
        have HO3 := hide (owns_below hO.out (below_drewN (Below.refl _ wr) nq))
        have HB3q := hide (below_drewN hB.out nq)
        generalize wr.drewN nq = w4 at *
        clear hO hB hc5 HO4 HB4 hz4
        go_wp2_with fail
        refine (keepB false false _).mono ?_
        rintro e w5 ⟨rfl, rfl⟩
        have HKS : Hid (ks = (so.take (k + 1)).filter fun v => (fun p q => p && q) (hasB v a) (hasB v b)) := Lib.hid (by rw [HSTEP.out, ← hks.out]; simp)
        clear HSTEP hks
        go_wp2_with fail
        go_roundw
        case rel => exact ⟨k + 1, q, ks, by go_num, by omega, by rw [HI2.out]; first | done | go_num, by rw [HJ2.out]; first | done | go_num, by omega, hql.out, HKS.out, unhide HO3, unhide HB3q⟩
        case measure => simp [intOf]; omega
      · obtain rfl : i = i2 := ea.symm
        obtain rfl : j = j2 := eb.symm
        rw [pa, pb] at HSTEP
        have gi : decide (i < n) = false := decide_eq_false (by have := HN.out; omega)
        have ljn : j < m := by have := HM.out; omega
        have gj : decide (j < m) = true := decide_eq_true ljn
        obtain ⟨xj, yj, ej, lj, hj⟩ := at1s (unhide HBr) (i := j) (u := .string ub) (by rw [List.getElem?_map, cb2]; rfl)
        subst ej
        have sj : (ub.toList == v.toList) = false := by rw [toList_bool]; exact decide_eq_false (fun e => nb e.symm)
        clear ia ib HSO HCC HSA HSB
        go_wp2_with fail
        go_quiet (fail)
        have HO3 := hide (owns_below hO.out (below_drewN (Below.refl _ wr) nq))
        have HB3q := hide (below_drewN hB.out nq)
        generalize wr.drewN nq = w4 at *
        clear hO hB hc5 HO4 HB4 hz4
        go_wp2_with fail
        refine (keepB false false _).mono ?_
        rintro e w5 ⟨rfl, rfl⟩
        have HKS : Hid (ks = (so.take (k + 1)).filter fun v => (fun p q => p && q) (hasB v a) (hasB v b)) := Lib.hid (by rw [HSTEP.out, ← hks.out]; simp)
        clear HSTEP hks
        go_wp2_with fail
        go_roundw
        case rel => exact ⟨k + 1, q, ks, by go_num, by omega, by rw [HI2.out]; first | done | go_num, by rw [HJ2.out]; first | done | go_num, by omega, hql.out, HKS.out, unhide HO3, unhide HB3q⟩
        case measure => simp [intOf]; omega
      · obtain rfl : i = i2 := ea.symm
        subst eb
        rw [pa, pb] at HSTEP
        have lin : i < n := by have := HN.out; omega
        have gi : decide (i < n) = true := decide_eq_true lin
        obtain ⟨xi, yi, ei, li, hi⟩ := at1s (unhide HAr) (i := i) (u := .string ua) (by rw [List.getElem?_map, ca2]; rfl)
        subst ei
        have si : (ua.toList == v.toList) = false := by rw [toList_bool]; exact decide_eq_false (fun e => na e.symm)
        have ljn : j < m := by have := HM.out; omega
        have gj : decide (j < m) = true := decide_eq_true ljn
        obtain ⟨xj, yj, ej, lj, hj⟩ := at1s (unhide HBr) (i := j) (u := .string v) (by rw [List.getElem?_map, cb2]; rfl)
        subst ej
        have sj : (v.toList == v.toList) = true := by rw [toList_bool]; exact decide_eq_true rfl
        clear ia ib HSO HCC HSA HSB
        go_wp2_with fail
        go_quiet (fail)
        have HO3 := hide (owns_below hO.out (below_drewN (Below.refl _ wr) nq))
        have HB3q := hide (below_drewN hB.out nq)
        generalize wr.drewN nq = w4 at *
        clear hO hB hc5 HO4 HB4 hz4
        go_wp2_with fail
        refine (keepB false true _).mono ?_
        rintro e w5 ⟨rfl, rfl⟩
        have HKS : Hid (ks = (so.take (k + 1)).filter fun v => (fun p q => p && q) (hasB v a) (hasB v b)) := Lib.hid (by rw [HSTEP.out, ← hks.out]; simp)
        clear HSTEP hks
        go_wp2_with fail
        go_roundw
        case rel => exact ⟨k + 1, q, ks, by go_num, by omega, by rw [HI2.out]; first | done | go_num, by rw [HJ2.out]; first | done | go_num, by omega, hql.out, HKS.out, unhide HO3, unhide HB3q⟩
        case measure => simp [intOf]; omega
      · obtain rfl : i = i2 := ea.symm
        obtain rfl : j = j2 := eb.symm
        rw [pa, pb] at HSTEP
        have lin : i < n := by have := HN.out; omega
        have gi : decide (i < n) = true := decide_eq_true lin
        obtain ⟨xi, yi, ei, li, hi⟩ := at1s (unhide HAr) (i := i) (u := .string ua) (by rw [List.getElem?_map, ca2]; rfl)
        subst ei
        have si : (ua.toList == v.toList) = false := by rw [toList_bool]; exact decide_eq_false (fun e => na e.symm)
        have gj : decide (j < m) = false := decide_eq_false (by have := HM.out; omega)
        clear ia ib HSO HCC HSA HSB
        go_wp2_with fail
        go_quiet (fail)
        have HO3 := hide (owns_below hO.out (below_drewN (Below.refl _ wr) nq))
        have HB3q := hide (below_drewN hB.out nq)
        generalize wr.drewN nq = w4 at *
        clear hO hB hc5 HO4 HB4 hz4
        go_wp2_with fail
        refine (keepB false false _).mono ?_
        rintro e w5 ⟨rfl, rfl⟩
        have HKS : Hid (ks = (so.take (k + 1)).filter fun v => (fun p q => p && q) (hasB v a) (hasB v b)) := Lib.hid (by rw [HSTEP.out, ← hks.out]; simp)
        clear HSTEP hks
        go_wp2_with fail
        go_roundw
        case rel => exact ⟨k + 1, q, ks, by go_num, by omega, by rw [HI2.out]; first | done | go_num, by rw [HJ2.out]; first | done | go_num, by omega, hql.out, HKS.out, unhide HO3, unhide HB3q⟩
        case measure => simp [intOf]; omega
      · obtain rfl : i = i2 := ea.symm
        obtain rfl : j = j2 := eb.symm
        rw [pa, pb] at HSTEP
        have lin : i < n := by have := HN.out; omega
        have gi : decide (i < n) = true := decide_eq_true lin
        obtain ⟨xi, yi, ei, li, hi⟩ := at1s (unhide HAr) (i := i) (u := .string ua) (by rw [List.getElem?_map, ca2]; rfl)
        subst ei
        have si : (ua.toList == v.toList) = false := by rw [toList_bool]; exact decide_eq_false (fun e => na e.symm)
        have ljn : j < m := by have := HM.out; omega
        have gj : decide (j < m) = true := decide_eq_true ljn
        obtain ⟨xj, yj, ej, lj, hj⟩ := at1s (unhide HBr) (i := j) (u := .string ub) (by rw [List.getElem?_map, cb2]; rfl)
        subst ej
        have sj : (ub.toList == v.toList) = false := by rw [toList_bool]; exact decide_eq_false (fun e => nb e.symm)
        clear ia ib HSO HCC HSA HSB
        go_wp2_with fail
        go_quiet (fail)
        have HO3 := hide (owns_below hO.out (below_drewN (Below.refl _ wr) nq))
        have HB3q := hide (below_drewN hB.out nq)
        generalize wr.drewN nq = w4 at *
        clear hO hB hc5 HO4 HB4 hz4
        go_wp2_with fail
        refine (keepB false false _).mono ?_
        rintro e w5 ⟨rfl, rfl⟩
        have HKS : Hid (ks = (so.take (k + 1)).filter fun v => (fun p q => p && q) (hasB v a) (hasB v b)) := Lib.hid (by rw [HSTEP.out, ← hks.out]; simp)
        clear HSTEP hks
        go_wp2_with fail
        go_roundw
        case rel => exact ⟨k + 1, q, ks, by go_num, by omega, by rw [HI2.out]; first | done | go_num, by rw [HJ2.out]; first | done | go_num, by omega, hql.out, HKS.out, unhide HO3, unhide HB3q⟩
        case measure => simp [intOf]; omega
    · have HR : Hid (r = ks) := Lib.hid (by rw [HMR.out, hks.out, List.take_of_length_le (by have := HL.out; omega)])
      have HBF := hide ((unhide HB3).trans (hB.out.mono (unhide HB3).size))
      have HOF := hide (owns_base hO.out (unhide HB3).size)
      go_wp2_with fail
      go_ret
      exact ⟨A4, c4, q, rfl, by rw [HR.out]; exact hql.out, by rw [HR.out]; exact unhide HOF, unhide HBF⟩

end Go.Proofs.YtkdlmgahkckjbaaGreat
