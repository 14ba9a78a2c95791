/- The reference's Delete and Update. Conditions: strings of at most 2^48 bytes. -/
-- by tools/gen_fmd.py
import Derived.Test.YtaambeficfiacaaGreatFmP
import Derived.Deep.RegionHeld3
namespace Go.Proofs.YtaambeficfiacaaGreat
open Go.RowKit Go.Shelf VM

def dl (ks vs : List ByteArray) (k : ByteArray) (i : Nat) : List (ByteArray × ByteArray) := ((ks.zip vs).take i).filter fun p => !decide (p.1 = k)
theorem dl_yes {ks vs : List ByteArray} {k x y : ByteArray} {i : Nat} (h1 : ks[i]? = some x) (h2 : vs[i]? = some y) (hx : x ≠ k) : dl ks vs k (i + 1) = dl ks vs k i ++ [(x, y)] := by
  unfold dl
  rw [List.take_add_one, (List.getElem?_zip_eq_some (z := (x, y))).2 ⟨h1, h2⟩, List.filter_append]
  congr 1
  show [(x, y)].filter _ = _
  rw [List.filter_cons_of_pos (by simp [hx])]; rfl
theorem dl_no {ks vs : List ByteArray} {k y : ByteArray} {i : Nat} (h1 : ks[i]? = some k) (h2 : vs[i]? = some y) : dl ks vs k (i + 1) = dl ks vs k i := by
  unfold dl
  rw [List.take_add_one, (List.getElem?_zip_eq_some (z := (k, y))).2 ⟨h1, h2⟩, List.filter_append]
  show _ ++ [(k, y)].filter _ = _
  rw [List.filter_cons_of_neg (by simp)]; simp
theorem dl_all {ks vs : List ByteArray} (k : ByteArray) (hN : ks.Nodup) (hl : ks.length = vs.length) {i : Nat} (hi : ks.length ≤ i) : (dl ks vs k i).map Prod.fst = delK ks k ∧ (dl ks vs k i).map Prod.snd = delV ks vs k := by
  unfold dl
  rw [List.take_of_length_le (by rw [List.length_zip]; omega)]
  have hf : ∀ {z : List (ByteArray × ByteArray)}, (∀ p ∈ z, p.1 ≠ k) → z.filter (fun p => !decide (p.1 = k)) = z := fun h => List.filter_eq_self.2 fun p hp => by simp [h p hp]
  rcases idxB_has (x := k) (ps := ks) (i := 0) with ⟨g1, j, g2, g3, g4, g5⟩ | ⟨g1, g2⟩
  · rw [Nat.zero_add] at g2
    obtain ⟨u, hu⟩ : ∃ u, vs[j]? = some u := ⟨vs[j]'(by omega), List.getElem?_eq_getElem _⟩
    have c1 := cut g4
    have c2 := cut hu
    have lt : (ks.take j).length = (vs.take j).length := by rw [List.length_take, List.length_take, hl]
    have ld : (ks.drop (j + 1)).length = (vs.drop (j + 1)).length := by rw [List.length_drop, List.length_drop, hl]
    have hnd : k ∉ ks.drop (j + 1) := fun q => by
      rw [c1] at hN
      exact (List.nodup_cons.1 (List.nodup_append.1 hN).2.1).1 q
    have z1 : ks.zip vs = (ks.take j).zip (vs.take j) ++ (k, u) :: (ks.drop (j + 1)).zip (vs.drop (j + 1)) := by
      conv => lhs; rw [c1, c2]
      rw [List.zip_append lt, List.zip_cons_cons]
    have eK : delK ks k = ks.take j ++ ks.drop (j + 1) := by unfold delK; rw [if_pos g1, g2, Int.toNat_natCast, List.eraseIdx_eq_take_drop_succ]
    have eV : delV ks vs k = vs.take j ++ vs.drop (j + 1) := by unfold delV; rw [if_pos g1, g2, Int.toNat_natCast, List.eraseIdx_eq_take_drop_succ]
    rw [z1, List.filter_append, List.filter_cons_of_neg (by simp), hf fun p hp => ?_, hf fun p hp => ?_, eK, eV, List.map_append, List.map_append]
    · exact ⟨by rw [List.map_fst_zip (by omega), List.map_fst_zip (by omega)], by rw [List.map_snd_zip (by omega), List.map_snd_zip (by omega)]⟩
    · exact fun e => hnd (e ▸ (List.of_mem_zip hp).1)
    · exact fun e => g5 (e ▸ (List.of_mem_zip hp).1)
  · have hk : k ∉ ks := fun q => by rw [← hasB_iff, g1] at q; cases q
    rw [hf fun p hp e => hk (e ▸ (List.of_mem_zip hp).1)]
    refine ⟨?_, ?_⟩
    · rw [List.map_fst_zip (by omega)]; unfold delK; rw [g1]; rfl
    · rw [List.map_snd_zip (by omega)]; unfold delV; rw [g1]; rfl
set_option linter.unusedSimpArgs false in
set_option maxRecDepth 100000 in
set_option maxHeartbeats 6400000 in
theorem rDelete_any (m k : ByteArray) (hm : m.size ≤ 281474976710656) (hk : k.size ≤ 281474976710656) (w : World) :
    Calls Tryz.prog 26 #[.string m, .string k] w (RetV w (delM m k)) := by
  have HX := Lib.hid (fun w => rkind_any m hm w)
  have HVk := Lib.hid (fun w => rvalid_any k hk w)
  cases h6 : isK 6 m with
  | false =>
    have HR : Hid (delM m k = (⟨#[]⟩, 6)) := Lib.hid (by
      have e : okM m [k] = false := by unfold okM; simp [h6]
      unfold delM; rw [e]; rfl)
    generalize delM m k = r at *
    have hk6 := kind_nomap h6
    generalize kindM m = kk at *
    clear h6
    go_enter Tryz.func26, Tryz.ntmps26
    go_wp2_with fail
    refine (HX.out _).mono ?_
    rintro e w1 ⟨rfl, hb1⟩
    have HB1 := hide hb1
    clear hb1
    go_wp2_with fail
    go_ret2
    exact ⟨by rw [HR.out]; rfl, unhide HB1⟩
  | true =>
    rw [kind_map h6] at HX
    cases h5k : valB 32 k with
    | false =>
      rw [h5k] at HVk
      have HR : Hid (delM m k = (⟨#[]⟩, 6)) := Lib.hid (by
        have e : okM m [k] = false := by unfold okM; simp [h6, h5k]
        unfold delM; rw [e]; rfl)
      generalize delM m k = r at *
      clear h6 h5k
      go_enter Tryz.func26, Tryz.ntmps26
      go_wp2_with fail
      refine (HX.out _).mono ?_
      rintro e w1 ⟨rfl, hb1⟩
      have HB1 := hide hb1
      clear hb1
      go_wp2_with fail
      refine (HVk.out _).mono ?_
      rintro e w2 ⟨rfl, hb2⟩
      have HB2 := hide ((unhide HB1).trans (hb2.mono (unhide HB1).size))
      clear hb2
      go_wp2_with fail
      go_ret2
      exact ⟨by rw [HR.out]; rfl, unhide HB2⟩
    | true =>
      rw [h5k] at HVk
      have hok : okM m [k] = true := by unfold okM; simp [h6, h5k]
      have hpm := pt_map h6
      have HPR := Lib.hid (fun w => rkeyed_any m hm hpm.2.1 w)
      have HLK := Lib.hid (ev_le m)
      have HLV := Lib.hid (od_le m)
      have hdel := del_ok k h6
      obtain ⟨KK, VV, q1, q2, q3, q4, -, q5, -, -, -, -⟩ := hdel
      have HR : Hid (delM m k = if 4096 < KK.length then (⟨#[]⟩, 9) else (mapM KK VV, 0)) := Lib.hid (by unfold delM; rw [if_pos hok, q1, q2]; unfold pairM; rw [if_neg q5])
      have HDA := Lib.hid (fun i (hi : (mkeys m).length ≤ i) => dl_all (vs := mvals m) k (asc_nodup (show Asc (mkeys m) from hpm.1)) (mlen m).symm hi)
      rw [q1, q2] at HDA
      have HKS : Hid (∀ s ∈ KK, s.size ≤ 131072) := Lib.hid (fun s hs => by
        rw [← q1] at hs
        unfold delK at hs
        split at hs
        · exact mk_size m s (List.mem_of_mem_eraseIdx hs)
        · exact mk_size m s hs)
      have HVS : Hid (∀ s ∈ VV, s.size ≤ 131072) := Lib.hid (fun s hs => by
        rw [← q2] at hs
        unfold delV at hs
        split at hs
        · exact mv_size m s (List.mem_of_mem_eraseIdx hs)
        · exact mv_size m s hs)
      have HKV := Lib.hid q3
      have hlen := mlen m
      generalize delM m k = r at *
      change Hid (∀ w, Calls _ _ _ w (RowRR w (mkeys m) (mvals m))) at HPR
      change Hid ((mkeys m).length ≤ 65536) at HLK
      change Hid ((mvals m).length ≤ 65536) at HLV
      generalize mkeys m = ks at *
      generalize mvals m = vs at *
      have HLEN := Lib.hid hlen
      obtain ⟨i0, hi0, hiz0, hiz1, hiz2⟩ := info_parts val_info
      clear hok hpm h6 h5k hlen q1 q2 q3 q4 q5
      go_enter Tryz.func26, Tryz.ntmps26
      go_wp2_with fail
      refine (HX.out _).mono ?_
      rintro e w1 ⟨rfl, hb1⟩
      have HB1 := hide hb1
      clear hb1
      go_wp2_with fail
      refine (HVk.out _).mono ?_
      rintro e w2 ⟨rfl, hb2⟩
      have HB2 := hide ((unhide HB1).trans (hb2.mono (unhide HB1).size))
      clear hb2
      go_wp2_with fail
      refine (HPR.out _).mono ?_
      rintro e w5 ⟨S5, S6, c5, c6, n5, n6, rfl, hn5, hn6, hT⟩
      have HB5 := hide ((unhide HB2).trans (hT.below.mono (unhide HB2).size))
      have HN5 := Lib.hid hn5
      have HN6 := Lib.hid hn6
      have hnb : n5 ≤ 65536 := by rw [hn5]; exact HLK.out
      have hnb6 : n6 ≤ 65536 := by rw [hn6]; exact HLV.out
      have HI5 := hide (InC.own hT.ok)
      have HI6 := hide (InC.own hT.ov)
      have HT := hide hT
      clear hn5 hn6 hT
      go_wp2_with fail
      go_loopw [6, 7, 10] (fun kv vv iv wr => ∃ (j q : Nat) (L R : List ByteArray), iv = .int .i64 j ∧ j ≤ n5 ∧ q ≤ j ∧ Hid (L = (dl ks vs k j).map Prod.fst) ∧ Hid (R = (dl ks vs k j).map Prod.snd) ∧ Hid (TwoR w5 wr kv vv q q (L.map Value.string) (R.map Value.string))) (fun _ _ iv _ => n5 - (intOf iv).toNat)
      case atStart => exact ⟨0, 0, [], [], rfl, by omega, by omega, by unfold dl; rw [List.take_zero]; rfl, by unfold dl; rw [List.take_zero]; rfl, TwoR.start _⟩
      case round =>
        obtain ⟨j, q, L, R, rfl, hj, hq, hL, hR, hT⟩ := hrel
        obtain ⟨A4, c4, rfl⟩ := owns_form hT.out.ok
        obtain ⟨A5, c5', rfl⟩ := owns_form hT.out.ov
        have HTw := hide hT.out
        clear hT
        by_cases hjL : j < n5
        · obtain ⟨x, hx⟩ : ∃ x, ks[j]? = some x := ⟨ks[j]'(by have := HN5.out; omega), List.getElem?_eq_getElem _⟩
          obtain ⟨y, hy⟩ : ∃ y, vs[j]? = some y := ⟨vs[j]'(by have := HN5.out; have := HLEN.out; omega), List.getElem?_eq_getElem _⟩
          have hj6 : j < n6 := by have := HN6.out; have := HN5.out; have := HLEN.out; omega
          obtain ⟨b, o5, hS5, hb5, hc5⟩ := at1s (unhide HI5) (i := j) (u := .string x) (by rw [List.getElem?_map, hx]; rfl)
          obtain ⟨b2, o6, hS6, hb6, hc6⟩ := at1s (unhide HI6) (i := j) (u := .string y) (by rw [List.getElem?_map, hy]; rfl)
          subst hS5
          subst hS6
          have HF := Lib.hid (fun W (h : Below w5.heap.size w5 W) => (⟨(h.cell (p := ⟨b, o5 + j, none⟩) hb5).trans hc5, (h.cell (p := ⟨b2, o6 + j, none⟩) hb6).trans hc6⟩ : W.cell? ⟨b, o5 + j, none⟩ = some (.string x) ∧ W.cell? ⟨b2, o6 + j, none⟩ = some (.string y)))
          have hd1 := (HF.out _ (unhide HTw).below).1
          have g := toList_bool x k
          clear hb5 hc5 hb6 hc6
          by_cases e : x = k
          · rw [decide_eq_true e.symm] at g
            have HEV : Hid (dl ks vs k (j + 1) = dl ks vs k j) := Lib.hid (by rw [e] at hx; exact dl_no hx hy)
            clear e hx hy
            go_wp2_with fail
            go_roundw
            case rel => exact ⟨j + 1, q, L, R, by go_num, by omega, by omega, by rw [HEV.out]; exact hL.out, by rw [HEV.out]; exact hR.out, unhide HTw⟩
            case measure => simp [intOf]; omega
          · rw [decide_eq_false (fun p => e p.symm)] at g
            have HEV : Hid (L ++ [x] = (dl ks vs k (j + 1)).map Prod.fst ∧ R ++ [y] = (dl ks vs k (j + 1)).map Prod.snd) := Lib.hid (by
              rw [dl_yes hx hy e, List.map_append, List.map_append, ← hL.out, ← hR.out]; exact ⟨rfl, rfl⟩)
            clear e hx hy hL hR
            go_wp2_with fail
            clear hd1
            have HT := hide (unhide HTw).drew
            clear HTw
            have fd0 : Hid (wr.drew.cell? ⟨b, o5 + j, none⟩ = some (.string x)) := (HF.out _ (unhide HT).below).1
            have fd1 : Hid (wr.drew.cell? ⟨b2, o6 + j, none⟩ = some (.string y)) := (HF.out _ (unhide HT).below).2
            refine wp_region_noPanic ?_
            refine wp_region_held_drew (S := fun W => W.cell? ⟨b, o5 + j, none⟩ = some (.string x) ∧ W.cell? ⟨b2, o6 + j, none⟩ = some (.string y)) (by kernel_rfl) ⟨fd0, fd1⟩ (fun _ => ?_)
            generalize wr.drew = wd at *
            try simp only [Act.put, List.setIfInBounds_toArray, List.set_cons_zero, List.set_cons_succ]
            refine wpAnyH_take (i := 0) (oi := { dst := some 36, op := Op.move (Operand.tmp 6), type := 33, pos := "finset.go:224", after := #[], guard := none }) (v := ?_) rfl (by kernel_rfl) (by kernel_rfl) (by kernel_rfl) (fun _ _ _ h => h) (Or.inl ⟨by rfl, ?_⟩) ⟨fd0, fd1⟩ ?_
            rotate_left 1
            · intro w hSw
              obtain ⟨hSw0, hSw1⟩ := hSw
              go_simp
              first
                | done
                | with_reducible rfl
                | rw [if_neg (by omega)]
            try simp only [Act.put, List.setIfInBounds_toArray, List.set_cons_zero, List.set_cons_succ]
            refine wpAnyH_take (i := 1) (oi := { dst := some 37, op := Op.move (Operand.tmp 8), type := 33, pos := "finset.go:224", after := #[], guard := none }) (v := ?_) rfl (by kernel_rfl) (by kernel_rfl) (by kernel_rfl) (fun _ _ _ h => h) (Or.inl ⟨by rfl, ?_⟩) ⟨fd0, fd1⟩ ?_
            rotate_left 1
            · intro w hSw
              obtain ⟨hSw0, hSw1⟩ := hSw
              go_simp
              first
                | done
                | with_reducible rfl
                | rw [if_neg (by omega)]
            try simp only [Act.put, List.setIfInBounds_toArray, List.set_cons_zero, List.set_cons_succ]
            refine wpAnyH_take (i := 2) (oi := { dst := some 38, op := Op.move (Operand.tmp 10), type := 3, pos := "finset.go:224", after := #[], guard := none }) (v := ?_) rfl (by kernel_rfl) (by kernel_rfl) (by kernel_rfl) (fun _ _ _ h => h) (Or.inl ⟨by rfl, ?_⟩) ⟨fd0, fd1⟩ ?_
            rotate_left 1
            · intro w hSw
              obtain ⟨hSw0, hSw1⟩ := hSw
              go_simp
              first
                | done
                | with_reducible rfl
                | rw [if_neg (by omega)]
            try simp only [Act.put, List.setIfInBounds_toArray, List.set_cons_zero, List.set_cons_succ]
            refine wpAnyH_take (i := 3) (oi := { dst := some 39, op := Op.indexAddr 33 (Operand.tmp 37) (Operand.tmp 38), type := 0, pos := "finset.go:224", after := #[{ on := 1, ground := Ground.data }, { on := 2, ground := Ground.data }], guard := none }) (v := ?_) rfl (by kernel_rfl) (by kernel_rfl) (by kernel_rfl) (fun _ _ _ h => h) (Or.inl ⟨by rfl, ?_⟩) ⟨fd0, fd1⟩ ?_
            rotate_left 1
            · intro w hSw
              obtain ⟨hSw0, hSw1⟩ := hSw
              go_simp
              first
                | done
                | with_reducible rfl
                | rw [if_neg (by omega)]
            try simp only [Act.put, List.setIfInBounds_toArray, List.set_cons_zero, List.set_cons_succ]
            refine wpAnyH_take (i := 4) (oi := { dst := some 40, op := Op.load 22 (Operand.tmp 39), type := 22, pos := "finset.go:224", after := #[{ on := 3, ground := Ground.data }], guard := none }) (v := ?_) rfl (by kernel_rfl) (by kernel_rfl) (by kernel_rfl) (fun _ _ _ h => h) (Or.inl ⟨by rfl, ?_⟩) ⟨fd0, fd1⟩ ?_
            rotate_left 1
            · intro w hSw
              obtain ⟨hSw0, hSw1⟩ := hSw
              go_simp
              first
                | done
                | with_reducible rfl
                | rw [if_neg (by omega)]
            try simp only [Act.put, List.setIfInBounds_toArray, List.set_cons_zero, List.set_cons_succ]
            refine wpAnyH_take (i := 7) (oi := { dst := some 43, op := Op.move (Operand.tmp 7), type := 33, pos := "finset.go:224", after := #[], guard := none }) (v := ?_) rfl (by kernel_rfl) (by kernel_rfl) (by kernel_rfl) (fun _ _ _ h => h) (Or.inl ⟨by rfl, ?_⟩) ⟨fd0, fd1⟩ ?_
            rotate_left 1
            · intro w hSw
              obtain ⟨hSw0, hSw1⟩ := hSw
              go_simp
              first
                | done
                | with_reducible rfl
                | rw [if_neg (by omega)]
            try simp only [Act.put, List.setIfInBounds_toArray, List.set_cons_zero, List.set_cons_succ]
            refine wpAnyH_take (i := 8) (oi := { dst := some 44, op := Op.move (Operand.tmp 9), type := 33, pos := "finset.go:224", after := #[], guard := none }) (v := ?_) rfl (by kernel_rfl) (by kernel_rfl) (by kernel_rfl) (fun _ _ _ h => h) (Or.inl ⟨by rfl, ?_⟩) ⟨fd0, fd1⟩ ?_
            rotate_left 1
            · intro w hSw
              obtain ⟨hSw0, hSw1⟩ := hSw
              go_simp
              first
                | done
                | with_reducible rfl
                | rw [if_neg (by omega)]
            try simp only [Act.put, List.setIfInBounds_toArray, List.set_cons_zero, List.set_cons_succ]
            refine wpAnyH_take (i := 9) (oi := { dst := some 45, op := Op.move (Operand.tmp 10), type := 3, pos := "finset.go:224", after := #[], guard := none }) (v := ?_) rfl (by kernel_rfl) (by kernel_rfl) (by kernel_rfl) (fun _ _ _ h => h) (Or.inl ⟨by rfl, ?_⟩) ⟨fd0, fd1⟩ ?_
            rotate_left 1
            · intro w hSw
              obtain ⟨hSw0, hSw1⟩ := hSw
              go_simp
              first
                | done
                | with_reducible rfl
                | rw [if_neg (by omega)]
            try simp only [Act.put, List.setIfInBounds_toArray, List.set_cons_zero, List.set_cons_succ]
            refine wpAnyH_take (i := 10) (oi := { dst := some 46, op := Op.indexAddr 33 (Operand.tmp 44) (Operand.tmp 45), type := 0, pos := "finset.go:224", after := #[{ on := 8, ground := Ground.data }, { on := 9, ground := Ground.data }], guard := none }) (v := ?_) rfl (by kernel_rfl) (by kernel_rfl) (by kernel_rfl) (fun _ _ _ h => h) (Or.inl ⟨by rfl, ?_⟩) ⟨fd0, fd1⟩ ?_
            rotate_left 1
            · intro w hSw
              obtain ⟨hSw0, hSw1⟩ := hSw
              go_simp
              first
                | done
                | with_reducible rfl
                | rw [if_neg (by omega)]
            try simp only [Act.put, List.setIfInBounds_toArray, List.set_cons_zero, List.set_cons_succ]
            refine wpAnyH_take (i := 11) (oi := { dst := some 47, op := Op.load 22 (Operand.tmp 46), type := 22, pos := "finset.go:224", after := #[{ on := 10, ground := Ground.data }], guard := none }) (v := ?_) rfl (by kernel_rfl) (by kernel_rfl) (by kernel_rfl) (fun _ _ _ h => h) (Or.inl ⟨by rfl, ?_⟩) ⟨fd0, fd1⟩ ?_
            rotate_left 1
            · intro w hSw
              obtain ⟨hSw0, hSw1⟩ := hSw
              go_simp
              first
                | done
                | with_reducible rfl
                | rw [if_neg (by omega)]
            try simp only [Act.put, List.setIfInBounds_toArray, List.set_cons_zero, List.set_cons_succ]
            refine wpAnyH_ready (rs := [5, 12]) (by kernel_rfl) (by simp) ?_
            refine (AllReadyH.cons (o := { dst := some 41, op := Op.buildSlice 33 1 #[(0, Operand.tmp 40)], type := 33, pos := "finset.go:224", after := #[{ on := 4, ground := Ground.data }], guard := none }) rfl (fun K hK => ?_) (AllReadyH.cons (o := { dst := some 48, op := Op.buildSlice 33 1 #[(0, Operand.tmp 47)], type := 33, pos := "finset.go:224", after := #[{ on := 11, ground := Ground.data }], guard := none }) rfl (fun K hK => ?_) AllReadyH.nil))
            · go_simp
              try dsimp only
              have HT701 := hide ((unhide HT).alloc (.cells #[.string x] 22))
              have HL701 := hide ((unhide HT).lit #[.string x])
              have fp701 := HF.out _ (unhide HT701).below
              refine hK.out _ (wd.alloc (.cells #[.string x] 22)) fp701 (fun _ => ?_)
              clear hK K
              generalize hwe701 : wd.alloc (.cells #[.string x] 22) = wl701 at *
              clear hwe701
              generalize hbe701 : wd.heap.size = bl701 at *
              clear hbe701
              try simp only [Act.put, List.setIfInBounds_toArray, List.set_cons_zero, List.set_cons_succ]
              refine wpAnyH_ready (rs := [6, 12]) (by kernel_rfl) (by simp) ?_
              refine (AllReadyH.cons (o := { dst := some 42, op := Op.call { callee := Callee.builtin Builtin.append, args := #[Operand.tmp 36, Operand.tmp 41], argTypes := #[33, 33] }, type := 33, pos := "finset.go:224", after := #[{ on := 0, ground := Ground.data }, { on := 5, ground := Ground.data }], guard := none }) rfl (fun K hK => ?_) (AllReadyH.cons (o := { dst := some 48, op := Op.buildSlice 33 1 #[(0, Operand.tmp 47)], type := 33, pos := "finset.go:224", after := #[{ on := 11, ground := Ground.data }], guard := none }) rfl (fun K hK => ?_) AllReadyH.nil))
              · refine step_app rfl _ _ 33 rfl w5.heap.size 22 i0 _ 1 16 Tryz.underlying33 hi0 hiz0 hiz1 hiz2 rfl (by decide) (.slice A4 q c4) q (L.map Value.string) rfl (unhide HT701).ok (some ⟨bl701, 0, none⟩) 1 1 [.string x] rfl rfl (unhide HL701).at1 (one_str x) (by unfold maxLen; omega) (by omega) (unhide HT701).below.size ?_
                intro v702 w702 hown702 hgrow702 hor702
                have HT702 := hide ((unhide HT701).appK hown702 hgrow702 hor702)
                have fp702 := HF.out _ (unhide HT702).below
                clear hown702 hgrow702 hor702
                refine hK.out _ w702 fp702 (fun _ => ?_)
                clear hK K
                try simp only [Act.put, List.setIfInBounds_toArray, List.set_cons_zero, List.set_cons_succ]
                refine wpAnyH_ready (rs := [12]) (by kernel_rfl) (by simp) ?_
                refine (AllReadyH.cons (o := { dst := some 48, op := Op.buildSlice 33 1 #[(0, Operand.tmp 47)], type := 33, pos := "finset.go:224", after := #[{ on := 11, ground := Ground.data }], guard := none }) rfl (fun K hK => ?_) AllReadyH.nil)
                go_simp
                try dsimp only
                have HT703 := hide ((unhide HT702).alloc (.cells #[.string y] 22))
                have HL703 := hide ((unhide HT702).lit #[.string y])
                have HN703 := hide ((unhide HL701).alloc (.cells #[.string y] 22))
                have fp703 := HF.out _ (unhide HT703).below
                refine hK.out _ (w702.alloc (.cells #[.string y] 22)) fp703 (fun _ => ?_)
                clear hK K
                generalize hwe703 : w702.alloc (.cells #[.string y] 22) = wl703 at *
                clear hwe703
                generalize hbe703 : w702.heap.size = bl703 at *
                clear hbe703
                try simp only [Act.put, List.setIfInBounds_toArray, List.set_cons_zero, List.set_cons_succ]
                refine wpAnyH_ready (rs := [13]) (by kernel_rfl) (by simp) ?_
                refine (AllReadyH.cons (o := { dst := some 49, op := Op.call { callee := Callee.builtin Builtin.append, args := #[Operand.tmp 43, Operand.tmp 48], argTypes := #[33, 33] }, type := 33, pos := "finset.go:224", after := #[{ on := 7, ground := Ground.data }, { on := 12, ground := Ground.data }, { on := 6, ground := Ground.chain }], guard := none }) rfl (fun K hK => ?_) AllReadyH.nil)
                refine step_app rfl _ _ 33 rfl w5.heap.size 22 i0 _ 1 16 Tryz.underlying33 hi0 hiz0 hiz1 hiz2 rfl (by decide) (.slice A5 q c5') q (R.map Value.string) rfl (unhide HT703).ov (some ⟨bl703, 0, none⟩) 1 1 [.string y] rfl rfl (unhide HL703).at1 (one_str y) (by unfold maxLen; omega) (by omega) (unhide HT703).below.size ?_
                intro v704 w704 hown704 hgrow704 hor704
                have HT704 := hide ((unhide HT703).appV hown704 hgrow704 hor704)
                have fp704 := HF.out _ (unhide HT704).below
                clear hown704 hgrow704 hor704
                refine hK.out _ w704 fp704 (fun _ => ?_)
                clear hK K
                try simp only [Act.put, List.setIfInBounds_toArray, List.set_cons_zero, List.set_cons_succ]
                refine wpAnyH_take (i := 14) (oi := { dst := some 6, op := Op.assign (Operand.tmp 42), type := 33, pos := "finset.go:224", after := #[{ on := 6, ground := Ground.data }, { on := 13, ground := Ground.chain }, { on := 0, ground := Ground.phase }, { on := 1, ground := Ground.phase }, { on := 2, ground := Ground.phase }, { on := 3, ground := Ground.phase }, { on := 4, ground := Ground.phase }, { on := 5, ground := Ground.phase }, { on := 6, ground := Ground.phase }, { on := 7, ground := Ground.textOnly Departure.lateStores }, { on := 8, ground := Ground.textOnly Departure.lateStores }, { on := 9, ground := Ground.textOnly Departure.lateStores }, { on := 10, ground := Ground.textOnly Departure.lateStores }, { on := 11, ground := Ground.textOnly Departure.lateStores }, { on := 12, ground := Ground.textOnly Departure.lateStores }, { on := 13, ground := Ground.textOnly Departure.lateStoresUnsure }], guard := none }) (v := ?_) rfl (by kernel_rfl) (by kernel_rfl) (by kernel_rfl) (fun _ _ _ h => h) (Or.inl ⟨by rfl, ?_⟩) ⟨fp704.1, fp704.2⟩ ?_
                rotate_left 1
                · intro w hSw
                  obtain ⟨hSw0, hSw1⟩ := hSw
                  go_simp
                  first
                    | done
                    | with_reducible rfl
                    | rw [if_neg (by omega)]
                try simp only [Act.put, List.setIfInBounds_toArray, List.set_cons_zero, List.set_cons_succ]
                refine wpAnyH_take (i := 15) (oi := { dst := some 7, op := Op.assign (Operand.tmp 49), type := 33, pos := "finset.go:224", after := #[{ on := 13, ground := Ground.data }, { on := 14, ground := Ground.chain }, { on := 0, ground := Ground.phase }, { on := 1, ground := Ground.phase }, { on := 2, ground := Ground.phase }, { on := 3, ground := Ground.phase }, { on := 4, ground := Ground.phase }, { on := 5, ground := Ground.phase }, { on := 6, ground := Ground.phase }, { on := 7, ground := Ground.phase }, { on := 8, ground := Ground.phase }, { on := 9, ground := Ground.phase }, { on := 10, ground := Ground.phase }, { on := 11, ground := Ground.phase }, { on := 12, ground := Ground.phase }, { on := 13, ground := Ground.phase }, { on := 14, ground := Ground.phase }], guard := none }) (v := ?_) rfl (by kernel_rfl) (by kernel_rfl) (by kernel_rfl) (fun _ _ _ h => h) (Or.inl ⟨by rfl, ?_⟩) ⟨fp704.1, fp704.2⟩ ?_
                rotate_left 1
                · intro w hSw
                  obtain ⟨hSw0, hSw1⟩ := hSw
                  go_simp
                  first
                    | done
                    | with_reducible rfl
                    | rw [if_neg (by omega)]
                try simp only [Act.put, List.setIfInBounds_toArray, List.set_cons_zero, List.set_cons_succ]
                refine wpAnyH_done (by kernel_rfl) ?_ _
                refine NoPanic.normal ?_
                have HTE := hide (unhide HT704)
                go_wp2_with fail
                go_roundw
                case rel => exact ⟨j + 1, q + 1, L ++ [x], R ++ [y], by go_num, by omega, by omega, HEV.out.1, HEV.out.2, by have := unhide HTE; rw [List.map_append, List.map_append]; exact this⟩
                case measure => simp [intOf]; omega
              · go_simp
                try dsimp only
                have HT705 := hide ((unhide HT701).alloc (.cells #[.string y] 22))
                have HL705 := hide ((unhide HT701).lit #[.string y])
                have HN705 := hide ((unhide HL701).alloc (.cells #[.string y] 22))
                have fp705 := HF.out _ (unhide HT705).below
                refine hK.out _ (wl701.alloc (.cells #[.string y] 22)) fp705 (fun _ => ?_)
                clear hK K
                generalize hwe705 : wl701.alloc (.cells #[.string y] 22) = wl705 at *
                clear hwe705
                generalize hbe705 : wl701.heap.size = bl705 at *
                clear hbe705
                try simp only [Act.put, List.setIfInBounds_toArray, List.set_cons_zero, List.set_cons_succ]
                refine wpAnyH_ready (rs := [6]) (by kernel_rfl) (by simp) ?_
                refine (AllReadyH.cons (o := { dst := some 42, op := Op.call { callee := Callee.builtin Builtin.append, args := #[Operand.tmp 36, Operand.tmp 41], argTypes := #[33, 33] }, type := 33, pos := "finset.go:224", after := #[{ on := 0, ground := Ground.data }, { on := 5, ground := Ground.data }], guard := none }) rfl (fun K hK => ?_) AllReadyH.nil)
                refine step_app rfl _ _ 33 rfl w5.heap.size 22 i0 _ 1 16 Tryz.underlying33 hi0 hiz0 hiz1 hiz2 rfl (by decide) (.slice A4 q c4) q (L.map Value.string) rfl (unhide HT705).ok (some ⟨bl701, 0, none⟩) 1 1 [.string x] rfl rfl (unhide HN705).at1 (one_str x) (by unfold maxLen; omega) (by omega) (unhide HT705).below.size ?_
                intro v706 w706 hown706 hgrow706 hor706
                have HT706 := hide ((unhide HT705).appK hown706 hgrow706 hor706)
                have HN706 := hide ((unhide HL705).appK hgrow706 hor706)
                have fp706 := HF.out _ (unhide HT706).below
                clear hown706 hgrow706 hor706
                refine hK.out _ w706 fp706 (fun _ => ?_)
                clear hK K
                try simp only [Act.put, List.setIfInBounds_toArray, List.set_cons_zero, List.set_cons_succ]
                refine wpAnyH_ready (rs := [13]) (by kernel_rfl) (by simp) ?_
                refine (AllReadyH.cons (o := { dst := some 49, op := Op.call { callee := Callee.builtin Builtin.append, args := #[Operand.tmp 43, Operand.tmp 48], argTypes := #[33, 33] }, type := 33, pos := "finset.go:224", after := #[{ on := 7, ground := Ground.data }, { on := 12, ground := Ground.data }, { on := 6, ground := Ground.chain }], guard := none }) rfl (fun K hK => ?_) AllReadyH.nil)
                refine step_app rfl _ _ 33 rfl w5.heap.size 22 i0 _ 1 16 Tryz.underlying33 hi0 hiz0 hiz1 hiz2 rfl (by decide) (.slice A5 q c5') q (R.map Value.string) rfl (unhide HT706).ov (some ⟨bl705, 0, none⟩) 1 1 [.string y] rfl rfl (unhide HN706).at1 (one_str y) (by unfold maxLen; omega) (by omega) (unhide HT706).below.size ?_
                intro v707 w707 hown707 hgrow707 hor707
                have HT707 := hide ((unhide HT706).appV hown707 hgrow707 hor707)
                have fp707 := HF.out _ (unhide HT707).below
                clear hown707 hgrow707 hor707
                refine hK.out _ w707 fp707 (fun _ => ?_)
                clear hK K
                try simp only [Act.put, List.setIfInBounds_toArray, List.set_cons_zero, List.set_cons_succ]
                refine wpAnyH_take (i := 14) (oi := { dst := some 6, op := Op.assign (Operand.tmp 42), type := 33, pos := "finset.go:224", after := #[{ on := 6, ground := Ground.data }, { on := 13, ground := Ground.chain }, { on := 0, ground := Ground.phase }, { on := 1, ground := Ground.phase }, { on := 2, ground := Ground.phase }, { on := 3, ground := Ground.phase }, { on := 4, ground := Ground.phase }, { on := 5, ground := Ground.phase }, { on := 6, ground := Ground.phase }, { on := 7, ground := Ground.textOnly Departure.lateStores }, { on := 8, ground := Ground.textOnly Departure.lateStores }, { on := 9, ground := Ground.textOnly Departure.lateStores }, { on := 10, ground := Ground.textOnly Departure.lateStores }, { on := 11, ground := Ground.textOnly Departure.lateStores }, { on := 12, ground := Ground.textOnly Departure.lateStores }, { on := 13, ground := Ground.textOnly Departure.lateStoresUnsure }], guard := none }) (v := ?_) rfl (by kernel_rfl) (by kernel_rfl) (by kernel_rfl) (fun _ _ _ h => h) (Or.inl ⟨by rfl, ?_⟩) ⟨fp707.1, fp707.2⟩ ?_
                rotate_left 1
                · intro w hSw
                  obtain ⟨hSw0, hSw1⟩ := hSw
                  go_simp
                  first
                    | done
                    | with_reducible rfl
                    | rw [if_neg (by omega)]
                try simp only [Act.put, List.setIfInBounds_toArray, List.set_cons_zero, List.set_cons_succ]
                refine wpAnyH_take (i := 15) (oi := { dst := some 7, op := Op.assign (Operand.tmp 49), type := 33, pos := "finset.go:224", after := #[{ on := 13, ground := Ground.data }, { on := 14, ground := Ground.chain }, { on := 0, ground := Ground.phase }, { on := 1, ground := Ground.phase }, { on := 2, ground := Ground.phase }, { on := 3, ground := Ground.phase }, { on := 4, ground := Ground.phase }, { on := 5, ground := Ground.phase }, { on := 6, ground := Ground.phase }, { on := 7, ground := Ground.phase }, { on := 8, ground := Ground.phase }, { on := 9, ground := Ground.phase }, { on := 10, ground := Ground.phase }, { on := 11, ground := Ground.phase }, { on := 12, ground := Ground.phase }, { on := 13, ground := Ground.phase }, { on := 14, ground := Ground.phase }], guard := none }) (v := ?_) rfl (by kernel_rfl) (by kernel_rfl) (by kernel_rfl) (fun _ _ _ h => h) (Or.inl ⟨by rfl, ?_⟩) ⟨fp707.1, fp707.2⟩ ?_
                rotate_left 1
                · intro w hSw
                  obtain ⟨hSw0, hSw1⟩ := hSw
                  go_simp
                  first
                    | done
                    | with_reducible rfl
                    | rw [if_neg (by omega)]
                try simp only [Act.put, List.setIfInBounds_toArray, List.set_cons_zero, List.set_cons_succ]
                refine wpAnyH_done (by kernel_rfl) ?_ _
                refine NoPanic.normal ?_
                have HTE := hide (unhide HT707)
                go_wp2_with fail
                go_roundw
                case rel => exact ⟨j + 1, q + 1, L ++ [x], R ++ [y], by go_num, by omega, by omega, HEV.out.1, HEV.out.2, by have := unhide HTE; rw [List.map_append, List.map_append]; exact this⟩
                case measure => simp [intOf]; omega
            · go_simp
              try dsimp only
              have HT708 := hide ((unhide HT).alloc (.cells #[.string y] 22))
              have HL708 := hide ((unhide HT).lit #[.string y])
              have fp708 := HF.out _ (unhide HT708).below
              refine hK.out _ (wd.alloc (.cells #[.string y] 22)) fp708 (fun _ => ?_)
              clear hK K
              generalize hwe708 : wd.alloc (.cells #[.string y] 22) = wl708 at *
              clear hwe708
              generalize hbe708 : wd.heap.size = bl708 at *
              clear hbe708
              try simp only [Act.put, List.setIfInBounds_toArray, List.set_cons_zero, List.set_cons_succ]
              refine wpAnyH_ready (rs := [5]) (by kernel_rfl) (by simp) ?_
              refine (AllReadyH.cons (o := { dst := some 41, op := Op.buildSlice 33 1 #[(0, Operand.tmp 40)], type := 33, pos := "finset.go:224", after := #[{ on := 4, ground := Ground.data }], guard := none }) rfl (fun K hK => ?_) AllReadyH.nil)
              go_simp
              try dsimp only
              have HT709 := hide ((unhide HT708).alloc (.cells #[.string x] 22))
              have HL709 := hide ((unhide HT708).lit #[.string x])
              have HN709 := hide ((unhide HL708).alloc (.cells #[.string x] 22))
              have fp709 := HF.out _ (unhide HT709).below
              refine hK.out _ (wl708.alloc (.cells #[.string x] 22)) fp709 (fun _ => ?_)
              clear hK K
              generalize hwe709 : wl708.alloc (.cells #[.string x] 22) = wl709 at *
              clear hwe709
              generalize hbe709 : wl708.heap.size = bl709 at *
              clear hbe709
              try simp only [Act.put, List.setIfInBounds_toArray, List.set_cons_zero, List.set_cons_succ]
              refine wpAnyH_ready (rs := [6]) (by kernel_rfl) (by simp) ?_
              refine (AllReadyH.cons (o := { dst := some 42, op := Op.call { callee := Callee.builtin Builtin.append, args := #[Operand.tmp 36, Operand.tmp 41], argTypes := #[33, 33] }, type := 33, pos := "finset.go:224", after := #[{ on := 0, ground := Ground.data }, { on := 5, ground := Ground.data }], guard := none }) rfl (fun K hK => ?_) AllReadyH.nil)
              refine step_app rfl _ _ 33 rfl w5.heap.size 22 i0 _ 1 16 Tryz.underlying33 hi0 hiz0 hiz1 hiz2 rfl (by decide) (.slice A4 q c4) q (L.map Value.string) rfl (unhide HT709).ok (some ⟨bl709, 0, none⟩) 1 1 [.string x] rfl rfl (unhide HL709).at1 (one_str x) (by unfold maxLen; omega) (by omega) (unhide HT709).below.size ?_
              intro v710 w710 hown710 hgrow710 hor710
              have HT710 := hide ((unhide HT709).appK hown710 hgrow710 hor710)
              have HN710 := hide ((unhide HN709).appK hgrow710 hor710)
              have fp710 := HF.out _ (unhide HT710).below
              clear hown710 hgrow710 hor710
              refine hK.out _ w710 fp710 (fun _ => ?_)
              clear hK K
              try simp only [Act.put, List.setIfInBounds_toArray, List.set_cons_zero, List.set_cons_succ]
              refine wpAnyH_ready (rs := [13]) (by kernel_rfl) (by simp) ?_
              refine (AllReadyH.cons (o := { dst := some 49, op := Op.call { callee := Callee.builtin Builtin.append, args := #[Operand.tmp 43, Operand.tmp 48], argTypes := #[33, 33] }, type := 33, pos := "finset.go:224", after := #[{ on := 7, ground := Ground.data }, { on := 12, ground := Ground.data }, { on := 6, ground := Ground.chain }], guard := none }) rfl (fun K hK => ?_) AllReadyH.nil)
              refine step_app rfl _ _ 33 rfl w5.heap.size 22 i0 _ 1 16 Tryz.underlying33 hi0 hiz0 hiz1 hiz2 rfl (by decide) (.slice A5 q c5') q (R.map Value.string) rfl (unhide HT710).ov (some ⟨bl708, 0, none⟩) 1 1 [.string y] rfl rfl (unhide HN710).at1 (one_str y) (by unfold maxLen; omega) (by omega) (unhide HT710).below.size ?_
              intro v711 w711 hown711 hgrow711 hor711
              have HT711 := hide ((unhide HT710).appV hown711 hgrow711 hor711)
              have fp711 := HF.out _ (unhide HT711).below
              clear hown711 hgrow711 hor711
              refine hK.out _ w711 fp711 (fun _ => ?_)
              clear hK K
              try simp only [Act.put, List.setIfInBounds_toArray, List.set_cons_zero, List.set_cons_succ]
              refine wpAnyH_take (i := 14) (oi := { dst := some 6, op := Op.assign (Operand.tmp 42), type := 33, pos := "finset.go:224", after := #[{ on := 6, ground := Ground.data }, { on := 13, ground := Ground.chain }, { on := 0, ground := Ground.phase }, { on := 1, ground := Ground.phase }, { on := 2, ground := Ground.phase }, { on := 3, ground := Ground.phase }, { on := 4, ground := Ground.phase }, { on := 5, ground := Ground.phase }, { on := 6, ground := Ground.phase }, { on := 7, ground := Ground.textOnly Departure.lateStores }, { on := 8, ground := Ground.textOnly Departure.lateStores }, { on := 9, ground := Ground.textOnly Departure.lateStores }, { on := 10, ground := Ground.textOnly Departure.lateStores }, { on := 11, ground := Ground.textOnly Departure.lateStores }, { on := 12, ground := Ground.textOnly Departure.lateStores }, { on := 13, ground := Ground.textOnly Departure.lateStoresUnsure }], guard := none }) (v := ?_) rfl (by kernel_rfl) (by kernel_rfl) (by kernel_rfl) (fun _ _ _ h => h) (Or.inl ⟨by rfl, ?_⟩) ⟨fp711.1, fp711.2⟩ ?_
              rotate_left 1
              · intro w hSw
                obtain ⟨hSw0, hSw1⟩ := hSw
                go_simp
                first
                  | done
                  | with_reducible rfl
                  | rw [if_neg (by omega)]
              try simp only [Act.put, List.setIfInBounds_toArray, List.set_cons_zero, List.set_cons_succ]
              refine wpAnyH_take (i := 15) (oi := { dst := some 7, op := Op.assign (Operand.tmp 49), type := 33, pos := "finset.go:224", after := #[{ on := 13, ground := Ground.data }, { on := 14, ground := Ground.chain }, { on := 0, ground := Ground.phase }, { on := 1, ground := Ground.phase }, { on := 2, ground := Ground.phase }, { on := 3, ground := Ground.phase }, { on := 4, ground := Ground.phase }, { on := 5, ground := Ground.phase }, { on := 6, ground := Ground.phase }, { on := 7, ground := Ground.phase }, { on := 8, ground := Ground.phase }, { on := 9, ground := Ground.phase }, { on := 10, ground := Ground.phase }, { on := 11, ground := Ground.phase }, { on := 12, ground := Ground.phase }, { on := 13, ground := Ground.phase }, { on := 14, ground := Ground.phase }], guard := none }) (v := ?_) rfl (by kernel_rfl) (by kernel_rfl) (by kernel_rfl) (fun _ _ _ h => h) (Or.inl ⟨by rfl, ?_⟩) ⟨fp711.1, fp711.2⟩ ?_
              rotate_left 1
              · intro w hSw
                obtain ⟨hSw0, hSw1⟩ := hSw
                go_simp
                first
                  | done
                  | with_reducible rfl
                  | rw [if_neg (by omega)]
              try simp only [Act.put, List.setIfInBounds_toArray, List.set_cons_zero, List.set_cons_succ]
              refine wpAnyH_done (by kernel_rfl) ?_ _
              refine NoPanic.normal ?_
              have HTE := hide (unhide HT711)
              go_wp2_with fail
              go_roundw
              case rel => exact ⟨j + 1, q + 1, L ++ [x], R ++ [y], by go_num, by omega, by omega, HEV.out.1, HEV.out.2, by have := unhide HTE; rw [List.map_append, List.map_append]; exact this⟩
              case measure => simp [intOf]; omega
        · have hdl := HDA.out j (by have := HN5.out; omega)
          have HLE : Hid (L = KK) := Lib.hid (hL.out.trans hdl.1)
          have HRE : Hid (R = VV) := Lib.hid (hR.out.trans hdl.2)
          have HIK := hide (InC.own (unhide HTw).ok)
          have HIV := hide (InC.own (unhide HTw).ov)
          have hql : q = L.length := by have := (unhide HTw).ok.1; rw [List.length_map] at this; omega
          rw [HLE.out] at HIK
          rw [HRE.out] at HIV
          have HQ : Hid (q = KK.length) := Lib.hid (hql.trans (by rw [HLE.out]))
          have HBW := hide ((unhide HB5).trans ((unhide HTw).below.mono (unhide HB5).size))
          have HMP := hide (rmap_any KK VV A4 A5 q q c4 c5' wr HQ.out (HQ.out.trans HKV.out) (by omega) (by omega) (fun s hs => by have := HKS.out s hs; omega) (fun s hs => by have := HVS.out s hs; omega) (unhide HIK) (unhide HIV))
          clear hql hL hR hdl HLE HRE HTw
          by_cases h4 : 4096 < q
          · have HR2 : Hid (r = (⟨#[]⟩, 9)) := Lib.hid (by rw [HR.out, if_pos (by rw [← HQ.out]; exact h4)])
            go_wp2_with fail
            go_ret2
            exact ⟨by rw [HR2.out]; rfl, unhide HBW⟩
          · have HR2 : Hid (r = (mapM KK VV, 0)) := Lib.hid (by rw [HR.out, if_neg (by rw [← HQ.out]; exact h4)])
            generalize mapM KK VV = mr at *
            go_wp2_with fail
            refine (unhide HMP).mono ?_
            rintro e w9 ⟨rfl, hb9⟩
            have HB9 := hide ((unhide HBW).trans (hb9.mono (unhide HBW).size))
            clear hb9
            go_wp2_with fail
            go_ret2
            exact ⟨by rw [HR2.out]; rfl, unhide HB9⟩

end Go.Proofs.YtaambeficfiacaaGreat
