/- The program's Update and Delete. Conditions: strings of at most 2^48 bytes. -/
-- by tools/gen_fmc.py
import Derived.Test.YtaambeficfiacaaGreatFmB
namespace Go.Proofs.YtaambeficfiacaaGreat
open Go.RowKit Go.Shelf VM

def updK (ks : List ByteArray) (k : ByteArray) : List ByteArray := if hasB k ks = true then ks else ks ++ [k]
def updV (ks vs : List ByteArray) (k v : ByteArray) : List ByteArray := if hasB k ks = true then vs.set (idxB k ks 0).toNat v else vs ++ [v]
def updM (m k v : ByteArray) : ByteArray × Int := if okM m [k, v] = true then pairM (updK (mkeys m) k) (updV (mkeys m) (mvals m) k v) else (⟨#[]⟩, 6)
def delK (ks : List ByteArray) (k : ByteArray) : List ByteArray := if hasB k ks = true then ks.eraseIdx (idxB k ks 0).toNat else ks
def delV (ks vs : List ByteArray) (k : ByteArray) : List ByteArray := if hasB k ks = true then vs.eraseIdx (idxB k ks 0).toNat else vs
def delM (m k : ByteArray) : ByteArray × Int := if okM m [k] = true then pairM (delK (mkeys m) k) (delV (mkeys m) (mvals m) k) else (⟨#[]⟩, 6)
theorem mk_size (m : ByteArray) : ∀ s ∈ mkeys m, s.size ≤ 131072 := ev_size m
theorem mv_size (m : ByteArray) : ∀ s ∈ mvals m, s.size ≤ 131072 := od_size m
theorem TwoR.store {w0 w : World} {kv : Value} {B : Option Addr} {n m d g j : Nat} {ks vs : List Value} (h : TwoR w0 w kv (.slice B m d) n m ks vs) (hB : B = some ⟨g, 0, none⟩) (u : Value) : (w.setCell ⟨g, j, none⟩ u).ownsRow w0.heap.size 22 1 kv n ks ∧ Below w0.heap.size w0 (w.setCell ⟨g, j, none⟩ u) := by
  subst hB
  have hb := (h.ov.lt g rfl).1
  refine ⟨owns_set h.ok (fun e => ?_) u, h.below.setCell hb u⟩
  rcases h.ne with h1 | h1 | h1
  · rw [h1] at e; cases e
  · cases h1
  · exact h1 e
set_option linter.unusedSimpArgs false in
set_option maxRecDepth 100000 in
set_option maxHeartbeats 6400000 in
theorem pUpdate_any (m k v : ByteArray) (hm : m.size ≤ 281474976710656) (hk : k.size ≤ 281474976710656) (hv : v.size ≤ 281474976710656) (w : World) :
    Calls Tryz.prog 23 #[.string m, .string k, .string v] w (RetV w (updM m k v)) := by
  have HX := Lib.hid (fun w => isMap_any m hm w)
  have HVk := Lib.hid (fun w => valid_any k hk w)
  have HVv := Lib.hid (fun w => valid_any v hv w)
  cases h6 : isK 6 m with
  | false =>
    rw [h6] at HX
    have HR : Hid (updM m k v = (⟨#[]⟩, 6)) := Lib.hid (by
      have e : okM m [k, v] = false := by unfold okM; simp [h6]
      unfold updM; rw [e]; rfl)
    generalize updM m k v = r at *
    clear h6
    go_enter Tryz.func23, Tryz.ntmps23
    go_wp2_with fail
    refine (HX.out _).mono ?_
    rintro e w1 ⟨rfl, hb1⟩
    have HB1 := hide hb1
    clear hb1
    go_wp2_with fail
    go_ret2
    exact ⟨by rw [HR.out]; rfl, unhide HB1⟩
  | true =>
    rw [h6] at HX
    cases h5k : valB 32 k with
    | false =>
      rw [h5k] at HVk
      have HR : Hid (updM m k v = (⟨#[]⟩, 6)) := Lib.hid (by
        have e : okM m [k, v] = false := by unfold okM; simp [h6, h5k]
        unfold updM; rw [e]; rfl)
      generalize updM m k v = r at *
      clear h6 h5k
      go_enter Tryz.func23, Tryz.ntmps23
      go_wp2_with fail
      refine (HX.out _).mono ?_
      rintro e w1 ⟨rfl, hb1⟩
      have HB1 := hide hb1
      clear hb1
      go_wp2_with fail
      refine (HVk.out _).mono ?_
      rintro e w2 ⟨rfl, hb2⟩
      have HB2 := hide ((unhide HB1).trans (hb2.mono (unhide HB1).size))
      clear hb2
      go_wp2_with fail
      go_ret2
      exact ⟨by rw [HR.out]; rfl, unhide HB2⟩
    | true =>
      rw [h5k] at HVk
      cases h5v : valB 32 v with
      | false =>
        rw [h5v] at HVv
        have HR : Hid (updM m k v = (⟨#[]⟩, 6)) := Lib.hid (by
          have e : okM m [k, v] = false := by unfold okM; simp [h6, h5k, h5v]
          unfold updM; rw [e]; rfl)
        generalize updM m k v = r at *
        clear h6 h5k h5v
        go_enter Tryz.func23, Tryz.ntmps23
        go_wp2_with fail
        refine (HX.out _).mono ?_
        rintro e w1 ⟨rfl, hb1⟩
        have HB1 := hide hb1
        clear hb1
        go_wp2_with fail
        refine (HVk.out _).mono ?_
        rintro e w2 ⟨rfl, hb2⟩
        have HB2 := hide ((unhide HB1).trans (hb2.mono (unhide HB1).size))
        clear hb2
        go_wp2_with fail
        refine (HVv.out _).mono ?_
        rintro e w3 ⟨rfl, hb3⟩
        have HB3 := hide ((unhide HB2).trans (hb3.mono (unhide HB2).size))
        clear hb3
        go_wp2_with fail
        go_ret2
        exact ⟨by rw [HR.out]; rfl, unhide HB3⟩
      | true =>
        rw [h5v] at HVv
        have hok : okM m [k, v] = true := by unfold okM; simp [h6, h5k, h5v]
        have hpm := pt_map h6
        have HPR := Lib.hid (fun w => ppairs_any m hm hpm.2.1 w)
        have HLK := Lib.hid (ev_le m)
        have HLV := Lib.hid (od_le m)
        have HR : Hid (updM m k v = pairM (updK (mkeys m) k) (updV (mkeys m) (mvals m) k v)) := Lib.hid (by unfold updM; rw [if_pos hok])
        have hlen := mlen m
        generalize updM m k v = r at *
        change Hid (∀ w, Calls _ _ _ w (RowRR w (mkeys m) (mvals m))) at HPR
        change Hid ((mkeys m).length ≤ 65536) at HLK
        change Hid ((mvals m).length ≤ 65536) at HLV
        have HSK := Lib.hid (mk_size m)
        have HSV := Lib.hid (mv_size m)
        generalize mkeys m = ks at *
        generalize mvals m = vs at *
        have HLEN := Lib.hid hlen
        clear hok hpm h6 h5k h5v hlen
        have HIX := Lib.hid (fun A n c w hn hr => index_any ks k A n c w hn (by have := HLK.out; omega) hr)
        have HKZ := Lib.hid hk
        have HVZ := Lib.hid hv
        obtain ⟨i0, hi0, hiz0, hiz1, hiz2⟩ := info_parts val_info
        go_enter Tryz.func23, Tryz.ntmps23
        go_wp2_with fail
        refine (HX.out _).mono ?_
        rintro e w1 ⟨rfl, hb1⟩
        have HB1 := hide hb1
        clear hb1
        go_wp2_with fail
        refine (HVk.out _).mono ?_
        rintro e w2 ⟨rfl, hb2⟩
        have HB2 := hide ((unhide HB1).trans (hb2.mono (unhide HB1).size))
        clear hb2
        go_wp2_with fail
        refine (HVv.out _).mono ?_
        rintro e w3 ⟨rfl, hb3⟩
        have HB3 := hide ((unhide HB2).trans (hb3.mono (unhide HB2).size))
        clear hb3
        go_wp2_with fail
        refine (HPR.out _).mono ?_
        rintro e w5 ⟨S5, S6, c5, c6, n5, n6, rfl, hn5, hn6, hT⟩
        have HB5 := hide ((unhide HB3).trans (hT.below.mono (unhide HB3).size))
        have HN5 := Lib.hid hn5
        have HN6 := Lib.hid hn6
        have hnb : n5 ≤ 65536 := by rw [hn5]; exact HLK.out
        have hnb6 : n6 ≤ 65536 := by rw [hn6]; exact HLV.out
        have HI5 := hide (InC.own hT.ok)
        have HI6 := hide (InC.own hT.ov)
        have HT := hide hT
        clear hn5 hn6 hT
        go_wp2_with fail
        refine (HIX.out _ _ _ _ HN5.out (unhide HI5)).mono ?_
        rintro e w6 ⟨rfl, hw6⟩
        subst w6
        rcases idxB_has (x := k) (ps := ks) (i := 0) with ⟨h1, j, h2, h3, -, -⟩ | ⟨h1, h2⟩
        · rw [Nat.zero_add] at h2
          have HR2 : Hid (r = pairM ks (vs.set j v)) := Lib.hid (by rw [HR.out]; unfold updK updV; rw [if_pos h1, if_pos h1, h2, Int.toNat_natCast])
          have hj6 : j < n6 := by have := HN6.out; have := HLEN.out; omega
          obtain ⟨g, hg1, hg2, ⟨u, hu, hcell⟩, hfr, hst⟩ := own_at (unhide HT).ov hj6
          obtain ⟨hOK, hBW⟩ := TwoR.store (j := j) (unhide HT) hg1 (.string v)
          have HIV := hide (hst v)
          have HIK := hide (InC.own hOK)
          have HLV2 : Hid (n6 = (vs.set j v).length) := Lib.hid (by rw [List.length_set]; exact HN6.out)
          have HPA := Lib.hid (fun A B ca cb w hr hr2 => paired_any ks (vs.set j v) A B n5 n6 ca cb w HN5.out HLV2.out (by omega) (by omega) (fun s hs => by have := HSK.out s hs; omega) (fun s hs => by
            rcases List.mem_or_eq_of_mem_set hs with h | h
            · have := HSV.out s h; omega
            · rw [h]; exact HVZ.out) hr hr2)
          have HBW := hide ((unhide HB3).trans (hBW.mono (unhide HB3).size))
          rw [h2]
          subst hg1
          clear h1 h2 h3 hu HR hst hOK hBW
          generalize vs.set j v = vs2 at *
          go_wp2_with fail
          refine (HPA.out _ _ _ _ _ (unhide HIK) (unhide HIV)).mono ?_
          unfold RetV
          rintro e w7 ⟨rfl, hb7⟩
          have HB7 := hide ((unhide HBW).trans (hb7.mono (unhide HBW).size))
          clear hb7
          go_wp2_with fail
          go_ret2
          exact ⟨by rw [HR2.out]; rfl, unhide HB7⟩
        · have HR2 : Hid (r = pairM (ks ++ [k]) (vs ++ [v])) := Lib.hid (by rw [HR.out]; unfold updK updV; rw [h1]; rfl)
          have HKL : Hid (n5 + 1 = (ks ++ [k]).length) := Lib.hid (by rw [List.length_append, ← HN5.out]; rfl)
          have HVL : Hid (n6 + 1 = (vs ++ [v]).length) := Lib.hid (by rw [List.length_append, ← HN6.out]; rfl)
          have HPA := Lib.hid (fun A B ca cb w hr hr2 => paired_any (ks ++ [k]) (vs ++ [v]) A B (n5 + 1) (n6 + 1) ca cb w HKL.out HVL.out (by omega) (by omega) (fun s hs => by
            rcases List.mem_append.1 hs with h | h
            · have := HSK.out s h; omega
            · rw [List.mem_singleton.1 h]; exact HKZ.out) (fun s hs => by
            rcases List.mem_append.1 hs with h | h
            · have := HSV.out s h; omega
            · rw [List.mem_singleton.1 h]; exact HVZ.out) hr hr2)
          have HT6 := hide ((unhide HT).alloc (.cells #[.string k] 22))
          have hz6 := (unhide HT6).below.size
          rw [h2]
          clear h1 h2 HR HI5 HI6
          go_wp2_with (at_builtin; first | (refine wpList_app _ rfl _ _ 33 rfl w3.heap.size 22 i0 _ 1 16 Tryz.underlying33 hi0 hiz0 hiz1 hiz2 rfl (by decide) _ n6 (vs.map Value.string) rfl (unhide HT8).ov (some ⟨w7.heap.size, 0, none⟩) 1 1 [.string v] rfl rfl (new_in w7 22 #[.string v]) (one_str v) (by unfold maxLen; omega) (by omega) hz8 ?_; intro v9 w9 hown9 hgrow9 hor9) | (refine wpList_app _ rfl _ _ 33 rfl w3.heap.size 22 i0 _ 1 16 Tryz.underlying33 hi0 hiz0 hiz1 hiz2 rfl (by decide) _ n5 (ks.map Value.string) rfl (unhide HT6).ok (some ⟨w5.heap.size, 0, none⟩) 1 1 [.string k] rfl rfl (new_in w5 22 #[.string k]) (one_str k) (by unfold maxLen; omega) (by omega) hz6 ?_; intro v7 w7 hown7 hgrow7 hor7; have HT7 := hide ((unhide HT6).appK (ks' := (ks ++ [k]).map Value.string) (by rw [List.map_append]; exact hown7) hgrow7 hor7); obtain ⟨A7, c7, rfl⟩ := owns_form (unhide HT7).ok; have HT8 := hide ((unhide HT7).alloc (.cells #[.string v] 22)); have hz8 := (unhide HT8).below.size))
          have HT9 := hide ((unhide HT8).appV (vs' := (vs ++ [v]).map Value.string) (by rw [List.map_append]; exact hown9) hgrow9 hor9)
          obtain ⟨A9, c9, rfl⟩ := owns_form (unhide HT9).ov
          have HBW := hide ((unhide HB3).trans ((unhide HT9).below.mono (unhide HB3).size))
          have HIK := hide (InC.own (unhide HT9).ok)
          have HIV := hide (InC.own (unhide HT9).ov)
          clear hown9 hgrow9 hor9 hown7 hgrow7 hor7
          go_wp2_with fail
          refine (HPA.out _ _ _ _ _ (unhide HIK) (unhide HIV)).mono ?_
          unfold RetV
          rintro e w10 ⟨rfl, hb10⟩
          have HB10 := hide ((unhide HBW).trans (hb10.mono (unhide HBW).size))
          clear hb10
          go_wp2_with fail
          go_ret2
          exact ⟨by rw [HR2.out]; rfl, unhide HB10⟩
theorem TwoR.ne' {w0 w : World} {kv vv : Value} {n m : Nat} {ks vs : List Value} (h : TwoR w0 w kv vv n m ks vs) : vv.ownBlock = none ∨ vv.ownBlock ≠ kv.ownBlock := by
  by_cases e : vv.ownBlock = none
  · exact .inl e
  · refine .inr fun q => ?_
    rcases h.ne with h1 | h1 | h1
    · exact e (q.trans h1)
    · exact e h1
    · exact h1 q.symm
theorem _root_.Go.Proofs.YtaambeficfiacaaGreat.InC.grown_other {w w' : World} {A B : Option Addr} {n m c d n' m' c' d' : Nat} {xs : List Value} (h : InC w A xs) (hg : w.grownBy w' (Value.slice B m d).ownBlock) (hne : (Value.slice A n c).ownBlock = none ∨ (Value.slice B m' d').ownBlock = none ∨ (Value.slice A n' c').ownBlock ≠ (Value.slice B m' d').ownBlock) : InC w' A xs := by
  rcases h with rfl | ⟨b, off, rfl, hb, hc⟩
  · exact .inl rfl
  · refine .inr ⟨b, off, rfl, Nat.lt_of_lt_of_le hb hg.size, fun i u hu => (World.cell?_of_block (hg.block b hb fun e => ?_)).trans (hc i u hu)⟩
    rcases hne with h1 | h1 | h1
    · cases h1
    · cases B with
      | none => cases e
      | some q => cases h1
    · cases B with
      | none => cases e
      | some q => exact h1 e
set_option linter.unusedSimpArgs false in
set_option maxRecDepth 100000 in
set_option maxHeartbeats 6400000 in
theorem pDelete_any (m k : ByteArray) (hm : m.size ≤ 281474976710656) (hk : k.size ≤ 281474976710656) (w : World) :
    Calls Tryz.prog 25 #[.string m, .string k] w (RetV w (delM m k)) := by
  have HX := Lib.hid (fun w => isMap_any m hm w)
  have HVk := Lib.hid (fun w => valid_any k hk w)
  cases h6 : isK 6 m with
  | false =>
    rw [h6] at HX
    have HR : Hid (delM m k = (⟨#[]⟩, 6)) := Lib.hid (by
      have e : okM m [k] = false := by unfold okM; simp [h6]
      unfold delM; rw [e]; rfl)
    generalize delM m k = r at *
    clear h6
    go_enter Tryz.func25, Tryz.ntmps25
    go_wp2_with fail
    refine (HX.out _).mono ?_
    rintro e w1 ⟨rfl, hb1⟩
    have HB1 := hide hb1
    clear hb1
    go_wp2_with fail
    go_ret2
    exact ⟨by rw [HR.out]; rfl, unhide HB1⟩
  | true =>
    rw [h6] at HX
    cases h5k : valB 32 k with
    | false =>
      rw [h5k] at HVk
      have HR : Hid (delM m k = (⟨#[]⟩, 6)) := Lib.hid (by
        have e : okM m [k] = false := by unfold okM; simp [h6, h5k]
        unfold delM; rw [e]; rfl)
      generalize delM m k = r at *
      clear h6 h5k
      go_enter Tryz.func25, Tryz.ntmps25
      go_wp2_with fail
      refine (HX.out _).mono ?_
      rintro e w1 ⟨rfl, hb1⟩
      have HB1 := hide hb1
      clear hb1
      go_wp2_with fail
      refine (HVk.out _).mono ?_
      rintro e w2 ⟨rfl, hb2⟩
      have HB2 := hide ((unhide HB1).trans (hb2.mono (unhide HB1).size))
      clear hb2
      go_wp2_with fail
      go_ret2
      exact ⟨by rw [HR.out]; rfl, unhide HB2⟩
    | true =>
      rw [h5k] at HVk
      have hok : okM m [k] = true := by unfold okM; simp [h6, h5k]
      have hpm := pt_map h6
      have HPR := Lib.hid (fun w => ppairs_any m hm hpm.2.1 w)
      have HLK := Lib.hid (ev_le m)
      have HLV := Lib.hid (od_le m)
      have HR : Hid (delM m k = pairM (delK (mkeys m) k) (delV (mkeys m) (mvals m) k)) := Lib.hid (by unfold delM; rw [if_pos hok])
      have hlen := mlen m
      generalize delM m k = r at *
      change Hid (∀ w, Calls _ _ _ w (RowRR w (mkeys m) (mvals m))) at HPR
      change Hid ((mkeys m).length ≤ 65536) at HLK
      change Hid ((mvals m).length ≤ 65536) at HLV
      have HSK := Lib.hid (mk_size m)
      have HSV := Lib.hid (mv_size m)
      generalize mkeys m = ks at *
      generalize mvals m = vs at *
      have HLEN := Lib.hid hlen
      clear hok hpm h6 h5k hlen
      have HIX := Lib.hid (fun A n c w hn hr => index_any ks k A n c w hn (by have := HLK.out; omega) hr)
      go_enter Tryz.func25, Tryz.ntmps25
      go_wp2_with fail
      refine (HX.out _).mono ?_
      rintro e w1 ⟨rfl, hb1⟩
      have HB1 := hide hb1
      clear hb1
      go_wp2_with fail
      refine (HVk.out _).mono ?_
      rintro e w2 ⟨rfl, hb2⟩
      have HB2 := hide ((unhide HB1).trans (hb2.mono (unhide HB1).size))
      clear hb2
      go_wp2_with fail
      refine (HPR.out _).mono ?_
      rintro e w5 ⟨S5, S6, c5, c6, n5, n6, rfl, hn5, hn6, hT⟩
      have HB5 := hide ((unhide HB2).trans (hT.below.mono (unhide HB2).size))
      have HN5 := Lib.hid hn5
      have HN6 := Lib.hid hn6
      have hnb : n5 ≤ 65536 := by rw [hn5]; exact HLK.out
      have hnb6 : n6 ≤ 65536 := by rw [hn6]; exact HLV.out
      have HI5 := hide (InC.own hT.ok)
      have HI6 := hide (InC.own hT.ov)
      have HT := hide hT
      clear hn5 hn6 hT
      go_wp2_with fail
      refine (HIX.out _ _ _ _ HN5.out (unhide HI5)).mono ?_
      rintro e w6 ⟨rfl, hw6⟩
      subst w6
      rcases idxB_has (x := k) (ps := ks) (i := 0) with ⟨h1, j, h2, h3, -, -⟩ | ⟨h1, h2⟩
      · rw [Nat.zero_add] at h2
        have HR2 : Hid (r = pairM (ks.eraseIdx j) (vs.eraseIdx j)) := Lib.hid (by rw [HR.out]; unfold delK delV; rw [if_pos h1, if_pos h1, h2, Int.toNat_natCast])
        have hj5 : j < n5 := by have := HN5.out; omega
        have hj6 : j < n6 := by have := HN6.out; have := HLEN.out; omega
        have HKL : Hid (n5 - 1 = (ks.eraseIdx j).length) := Lib.hid (by rw [List.length_eraseIdx, if_pos h3, HN5.out])
        have HVL : Hid (n6 - 1 = (vs.eraseIdx j).length) := Lib.hid (by rw [List.length_eraseIdx, if_pos (by have := HLEN.out; omega), HN6.out])
        have HPA := Lib.hid (fun A B ca cb w hr hr2 => paired_any (ks.eraseIdx j) (vs.eraseIdx j) A B (n5 - 1) (n6 - 1) ca cb w HKL.out HVL.out (by omega) (by omega) (fun s hs => by
          have := HSK.out s (List.mem_of_mem_eraseIdx hs); omega) (fun s hs => by
          have := HSV.out s (List.mem_of_mem_eraseIdx hs); omega) hr hr2)
        have HD1 := hide (del_any ks _ n5 c5 j S5 w5 (unhide HT).ok hj5)
        have HD2 := Lib.hid (fun w hO => del_any vs w2.heap.size n6 c6 j S6 w hO hj6)
        have gw : IntKind.i64.wrap ((j : Int) + 1) = (j : Int) + 1 := IntWalk.i64_in _ (by omega)
        rw [h2]
        clear h1 h2 h3 HR HI5 HI6
        generalize ks.eraseIdx j = ks2 at *
        generalize vs.eraseIdx j = vs2 at *
        go_wp2_with fail
        refine ((unhide HD1) _ (by omega)).mono ?_
        rintro e w7 ⟨rfl, hI7, hG7⟩
        have HI7 := hide hI7
        have HO7 := hide ((unhide HT).ov.kept hG7 ((unhide HT).ne'))
        have HB7 := hide (below_app (unhide HT).below (unhide HT).ok hG7)
        clear hI7 hG7
        go_wp2_with fail
        refine (HD2.out _ (unhide HO7) _ (by omega)).mono ?_
        rintro e w8 ⟨rfl, hI8, hG8⟩
        have HI8 := hide hI8
        have HIK := hide ((unhide HI7).grown_other hG8 (unhide HT).ne)
        have HB8 := hide ((unhide HB2).trans ((below_app (unhide HB7) (unhide HO7) hG8).mono (unhide HB2).size))
        clear hI8 hG8
        go_wp2_with fail
        refine (HPA.out _ _ _ _ _ (unhide HIK) (unhide HI8)).mono ?_
        unfold RetV
        rintro e w9 ⟨rfl, hb9⟩
        have HB9 := hide ((unhide HB8).trans (hb9.mono (unhide HB8).size))
        clear hb9
        go_wp2_with fail
        go_ret2
        exact ⟨by rw [HR2.out]; rfl, unhide HB9⟩
      · have HR2 : Hid (r = pairM ks vs) := Lib.hid (by rw [HR.out]; unfold delK delV; rw [h1]; rfl)
        have HPA := Lib.hid (fun A B ca cb w hr hr2 => paired_any ks vs A B n5 n6 ca cb w HN5.out HN6.out (by omega) (by omega) (fun s hs => by
          have := HSK.out s hs; omega) (fun s hs => by have := HSV.out s hs; omega) hr hr2)
        rw [h2]
        clear h1 h2 HR
        go_wp2_with fail
        refine (HPA.out _ _ _ _ _ (unhide HI5) (unhide HI6)).mono ?_
        unfold RetV
        rintro e w9 ⟨rfl, hb9⟩
        have HB9 := hide ((unhide HB5).trans (hb9.mono (unhide HB5).size))
        clear hb9
        go_wp2_with fail
        go_ret2
        exact ⟨by rw [HR2.out]; rfl, unhide HB9⟩

end Go.Proofs.YtaambeficfiacaaGreat
