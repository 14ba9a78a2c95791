/- The reference's Update. Conditions: strings of at most 2^48 bytes. -/
-- by tools/gen_fme.py
import Derived.Test.YtaambeficfiacaaGreatFmD
namespace Go.Proofs.YtaambeficfiacaaGreat
open Go.RowKit Go.Shelf VM

theorem mapM_size (ks vs : List ByteArray) : (mapM ks vs).size ≤ 131072 := by
  by_cases h : mapM ks vs = ⟨#[]⟩
  · rw [h]; decide
  · have : valB 32 (mapM ks vs) = true := by
      unfold mapM at h ⊢
      split at h
      · rename_i q
        rw [if_pos q]
        exact (isK_valid (made (by decide) h).1).1
      · exact absurd rfl h
    exact (tree_val (Nat.le_refl _) this).2.2
set_option linter.unusedSimpArgs false in
set_option maxRecDepth 100000 in
set_option maxHeartbeats 6400000 in
theorem rUpdate_any (m k v : ByteArray) (hm : m.size ≤ 281474976710656) (hk : k.size ≤ 281474976710656) (hv : v.size ≤ 281474976710656) (w : World) :
    Calls Tryz.prog 24 #[.string m, .string k, .string v] w (RetV w (updM m k v)) := by
  have HX := Lib.hid (fun w => rkind_any m hm w)
  have HVk := Lib.hid (fun w => rvalid_any k hk w)
  have HVv := Lib.hid (fun w => rvalid_any v hv w)
  cases h6 : isK 6 m with
  | false =>
    have HR : Hid (updM m k v = (⟨#[]⟩, 6)) := Lib.hid (by
      have e : okM m [k, v] = false := by unfold okM; simp [h6]
      unfold updM; rw [e]; rfl)
    generalize updM m k v = r at *
    have hk6 := kind_nomap h6
    generalize kindM m = kk at *
    clear h6
    go_enter Tryz.func24, Tryz.ntmps24
    go_wp2_with fail
    refine (HX.out _).mono ?_
    rintro e w1 ⟨rfl, hb1⟩
    have HB1 := hide hb1
    clear hb1
    go_wp2_with fail
    go_ret2
    exact ⟨by rw [HR.out]; rfl, unhide HB1⟩
  | true =>
    rw [kind_map h6] at HX
    cases h5k : valB 32 k with
    | false =>
      rw [h5k] at HVk
      have HR : Hid (updM m k v = (⟨#[]⟩, 6)) := Lib.hid (by
        have e : okM m [k, v] = false := by unfold okM; simp [h6, h5k]
        unfold updM; rw [e]; rfl)
      generalize updM m k v = r at *
      clear h6 h5k
      go_enter Tryz.func24, Tryz.ntmps24
      go_wp2_with fail
      refine (HX.out _).mono ?_
      rintro e w1 ⟨rfl, hb1⟩
      have HB1 := hide hb1
      clear hb1
      go_wp2_with fail
      refine (HVk.out _).mono ?_
      rintro e w2 ⟨rfl, hb2⟩
      have HB2 := hide ((unhide HB1).trans (hb2.mono (unhide HB1).size))
      clear hb2
      go_wp2_with fail
      go_ret2
      exact ⟨by rw [HR.out]; rfl, unhide HB2⟩
    | true =>
      rw [h5k] at HVk
      cases h5v : valB 32 v with
      | false =>
        rw [h5v] at HVv
        have HR : Hid (updM m k v = (⟨#[]⟩, 6)) := Lib.hid (by
          have e : okM m [k, v] = false := by unfold okM; simp [h6, h5k, h5v]
          unfold updM; rw [e]; rfl)
        generalize updM m k v = r at *
        clear h6 h5k h5v
        go_enter Tryz.func24, Tryz.ntmps24
        go_wp2_with fail
        refine (HX.out _).mono ?_
        rintro e w1 ⟨rfl, hb1⟩
        have HB1 := hide hb1
        clear hb1
        go_wp2_with fail
        refine (HVk.out _).mono ?_
        rintro e w2 ⟨rfl, hb2⟩
        have HB2 := hide ((unhide HB1).trans (hb2.mono (unhide HB1).size))
        clear hb2
        go_wp2_with fail
        refine (HVv.out _).mono ?_
        rintro e w3 ⟨rfl, hb3⟩
        have HB3 := hide ((unhide HB2).trans (hb3.mono (unhide HB2).size))
        clear hb3
        go_wp2_with fail
        go_ret2
        exact ⟨by rw [HR.out]; rfl, unhide HB3⟩
      | true =>
        rw [h5v] at HVv
        have hok : okM m [k, v] = true := by unfold okM; simp [h6, h5k, h5v]
        have hpm := pt_map h6
        have HPR := Lib.hid (fun w => rkeyed_any m hm hpm.2.1 w)
        have HLK := Lib.hid (ev_le m)
        have HLV := Lib.hid (od_le m)
        obtain ⟨KK, VV, q1, q2, q3, q4, -, q5, q6, q7, q8, q9⟩ := del_ok k h6
        have HD := Lib.hid (fun w => rDelete_any m k hm hk w)
        unfold RetV at HD
        have hok1 : okM m [k] = true := by unfold okM; simp [h6, h5k]
        have hdm : delM m k = if 4096 < KK.length then (⟨#[]⟩, 9) else (mapM KK VV, 0) := by unfold delM; rw [if_pos hok1, q1, q2]; unfold pairM; rw [if_neg q5]
        have HKL : Hid (KK.length ≤ 65536) := Lib.hid (by
          have := HLK.out
          rw [← q1]
          change (mkeys m).length ≤ 65536 at this
          unfold delK
          split
          · exact Nat.le_trans (List.eraseIdx_sublist _ _).length_le this
          · exact this)
        have hum : updM m k v = if 4096 < KK.length + 1 then (⟨#[]⟩, 9) else if mapM (KK ++ [k]) (VV ++ [v]) = ⟨#[]⟩ then (⟨#[]⟩, 9) else (mapM (KK ++ [k]) (VV ++ [v]), 0) := by
          unfold updM; rw [if_pos hok]; unfold pairM; rw [(q9 v).1, (q9 v).2]
        have HKZ := Lib.hid hk
        have HVZ := Lib.hid hv
        by_cases hbig : 4096 < KK.length
        · rw [if_pos hbig] at hdm
          have HR : Hid (updM m k v = (⟨#[]⟩, 9)) := Lib.hid (by rw [hum, if_pos (by omega)])
          rw [hdm] at HD
          generalize updM m k v = r at *
          clear hum hok hok1 hdm hpm h6 h5k h5v q1 q2 q3 q4 q5 q6 q7 q8 q9
          go_enter Tryz.func24, Tryz.ntmps24
          go_wp2_with fail
          refine (HX.out _).mono ?_
          rintro e w1 ⟨rfl, hb1⟩
          have HB1 := hide hb1
          clear hb1
          go_wp2_with fail
          refine (HVk.out _).mono ?_
          rintro e w2 ⟨rfl, hb2⟩
          have HB2 := hide ((unhide HB1).trans (hb2.mono (unhide HB1).size))
          clear hb2
          go_wp2_with fail
          refine (HVv.out _).mono ?_
          rintro e w3 ⟨rfl, hb3⟩
          have HB3 := hide ((unhide HB2).trans (hb3.mono (unhide HB2).size))
          clear hb3
          go_wp2_with fail
          refine (HD.out _).mono ?_
          rintro e w4 ⟨rfl, hb4⟩
          have HB4 := hide ((unhide HB3).trans (hb4.mono (unhide HB3).size))
          clear hb4
          go_wp2_with fail
          go_ret2
          exact ⟨by rw [HR.out]; rfl, unhide HB4⟩
        · rw [if_neg hbig] at hdm
          rw [hdm] at HD
          have hpr := pt_map q6
          have HPR2 := Lib.hid (fun w => rkeyed_any (mapM KK VV) (by have := mapM_size KK VV; omega) hpr.2.1 w)
          change Hid (∀ w, Calls _ _ _ w (RowRR w (mkeys (mapM KK VV)) (mvals (mapM KK VV)))) at HPR2
          rw [q7, q8] at HPR2
          have HKS : Hid (∀ s ∈ KK, s.size ≤ 131072) := Lib.hid (fun s hs => by rw [← q7] at hs; exact mk_size _ s hs)
          have HVS : Hid (∀ s ∈ VV, s.size ≤ 131072) := Lib.hid (fun s hs => by rw [← q8] at hs; exact mv_size _ s hs)
          have HKV := Lib.hid q3
          generalize mapM KK VV = mr at *
          have HUM := Lib.hid hum
          have HBG := Lib.hid hbig
          generalize updM m k v = r at *
          obtain ⟨i0, hi0, hiz0, hiz1, hiz2⟩ := info_parts val_info
          clear hum hbig hok hok1 hdm hpm hpr h6 h5k h5v q1 q2 q3 q4 q5 q6 q7 q8 q9
          go_enter Tryz.func24, Tryz.ntmps24
          go_wp2_with fail
          refine (HX.out _).mono ?_
          rintro e w1 ⟨rfl, hb1⟩
          have HB1 := hide hb1
          clear hb1
          go_wp2_with fail
          refine (HVk.out _).mono ?_
          rintro e w2 ⟨rfl, hb2⟩
          have HB2 := hide ((unhide HB1).trans (hb2.mono (unhide HB1).size))
          clear hb2
          go_wp2_with fail
          refine (HVv.out _).mono ?_
          rintro e w3 ⟨rfl, hb3⟩
          have HB3 := hide ((unhide HB2).trans (hb3.mono (unhide HB2).size))
          clear hb3
          go_wp2_with fail
          refine (HD.out _).mono ?_
          rintro e w4 ⟨rfl, hb4⟩
          have HB4 := hide ((unhide HB3).trans (hb4.mono (unhide HB3).size))
          clear hb4
          go_wp2_with fail
          refine (HPR2.out _).mono ?_
          rintro e w5 ⟨S5, S6, c5, c6, n5, n6, rfl, hn5, hn6, hT⟩
          have HN5 := Lib.hid hn5
          have HN6 := Lib.hid hn6
          have hnb : n5 ≤ 65536 := by rw [hn5]; exact HKL.out
          have hnb6 : n6 ≤ 65536 := by rw [hn6, ← HKV.out]; exact HKL.out
          have HT6 := hide (hT.alloc (.cells #[.string k] 22))
          have hz6 := (unhide HT6).below.size
          have HKL2 : Hid (n5 + 1 = (KK ++ [k]).length) := Lib.hid (by rw [List.length_append, ← HN5.out]; rfl)
          have HVL2 : Hid (n6 + 1 = (VV ++ [v]).length) := Lib.hid (by rw [List.length_append, ← HN6.out]; rfl)
          have HMP := Lib.hid (fun A B ca cb w hr hr2 => rmap_any (KK ++ [k]) (VV ++ [v]) A B (n5 + 1) (n6 + 1) ca cb w HKL2.out HVL2.out (by omega) (by omega) (fun s hs => by
            rcases List.mem_append.1 hs with h | h
            · have := HKS.out s h; omega
            · rw [List.mem_singleton.1 h]; exact HKZ.out) (fun s hs => by
            rcases List.mem_append.1 hs with h | h
            · have := HVS.out s h; omega
            · rw [List.mem_singleton.1 h]; exact HVZ.out) hr hr2)
          clear hn5 hn6 hT
          generalize mapM (KK ++ [k]) (VV ++ [v]) = mu at *
          go_wp2_with (at_builtin; first | (refine wpList_app _ rfl _ _ 33 rfl w4.heap.size 22 i0 _ 1 16 Tryz.underlying33 hi0 hiz0 hiz1 hiz2 rfl (by decide) _ n6 (VV.map Value.string) rfl (unhide HT8).ov (some ⟨w7.heap.size, 0, none⟩) 1 1 [.string v] rfl rfl (new_in w7 22 #[.string v]) (one_str v) (by unfold maxLen; omega) (by omega) hz8 ?_; intro v9 w9 hown9 hgrow9 hor9) | (refine wpList_app _ rfl _ _ 33 rfl w4.heap.size 22 i0 _ 1 16 Tryz.underlying33 hi0 hiz0 hiz1 hiz2 rfl (by decide) _ n5 (KK.map Value.string) rfl (unhide HT6).ok (some ⟨w5.heap.size, 0, none⟩) 1 1 [.string k] rfl rfl (new_in w5 22 #[.string k]) (one_str k) (by unfold maxLen; omega) (by omega) hz6 ?_; intro v7 w7 hown7 hgrow7 hor7; have HT7 := hide ((unhide HT6).appK (ks' := (KK ++ [k]).map Value.string) (by rw [List.map_append]; exact hown7) hgrow7 hor7); obtain ⟨A7, c7, rfl⟩ := owns_form (unhide HT7).ok; have HT8 := hide ((unhide HT7).alloc (.cells #[.string v] 22)); have hz8 := (unhide HT8).below.size))
          have HT9 := hide ((unhide HT8).appV (vs' := (VV ++ [v]).map Value.string) (by rw [List.map_append]; exact hown9) hgrow9 hor9)
          obtain ⟨A9, c9, rfl⟩ := owns_form (unhide HT9).ov
          have HBW := hide ((unhide HB4).trans ((unhide HT9).below.mono (unhide HB4).size))
          have HIK := hide (InC.own (unhide HT9).ok)
          have HIV := hide (InC.own (unhide HT9).ov)
          clear hown9 hgrow9 hor9 hown7 hgrow7 hor7
          go_wp2_with fail
          refine (HMP.out _ _ _ _ _ (unhide HIK) (unhide HIV)).mono ?_
          rintro e w10 ⟨rfl, hb10⟩
          have HB10 := hide ((unhide HBW).trans (hb10.mono (unhide HBW).size))
          clear hb10
          by_cases hmu : mu = ⟨#[]⟩
          · have HR : Hid (r = (⟨#[]⟩, 9)) := Lib.hid (by rw [HUM.out, hmu]; split <;> rfl)
            clear HUM
            subst hmu
            go_wp2_with fail
            go_ret2
            exact ⟨by rw [HR.out]; rfl, unhide HB10⟩
          · have hl : mu.toList.isEmpty = false := by
              rw [Bool.eq_false_iff]
              intro h
              have := isEmpty_toList mu
              rw [List.isEmpty_iff.1 h, decide_eq_false hmu] at this
              cases this
            by_cases h4 : 4096 < n5 + 1
            · have HR : Hid (r = (⟨#[]⟩, 9)) := Lib.hid (by rw [HUM.out, if_pos (by rw [← HN5.out]; exact h4)])
              have hg : decide ((4096 : Int) < (n5 : Int) + 1) = true := decide_eq_true (by omega)
              clear HUM
              go_wp2_with fail
              go_ret2
              exact ⟨by rw [HR.out]; rfl, unhide HB10⟩
            · have HR : Hid (r = (mu, 0)) := Lib.hid (by rw [HUM.out, if_neg (by rw [← HN5.out]; exact h4), if_neg hmu])
              have hg : decide ((4096 : Int) < (n5 : Int) + 1) = false := decide_eq_false (by omega)
              clear HUM
              go_wp2_with fail
              go_ret2
              exact ⟨by rw [HR.out]; rfl, unhide HB10⟩

end Go.Proofs.YtaambeficfiacaaGreat
