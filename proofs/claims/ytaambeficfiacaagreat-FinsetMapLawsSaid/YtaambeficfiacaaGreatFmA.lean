/- Lookup and HasKey of both sides. Conditions: strings of at most 2^48 bytes. -/
-- by tools/gen_fma.py
import Derived.Test.YtaambeficfiacaaGreatFnZ
namespace Go.Proofs.YtaambeficfiacaaGreat
open Go.RowKit Go.Shelf VM

def okM (m : ByteArray) (l : List ByteArray) : Bool := isK 6 m && l.all (valB 32)
def mkeys (m : ByteArray) : List ByteArray := evB (pt m)
def mvals (m : ByteArray) : List ByteArray := odB (pt m)
theorem mlen (m : ByteArray) : (mvals m).length = (mkeys m).length := od_len
def getS (l : List ByteArray) (z : Int) : ByteArray := (l[z.toNat]?).getD ⟨#[]⟩
def lookM (m k : ByteArray) : ByteArray × Int := if okM m [k] = true then (if idxB k (mkeys m) 0 < 0 then (⟨#[]⟩, 12) else (getS (mvals m) (idxB k (mkeys m) 0), 0)) else (⟨#[]⟩, 6)
def hasM (m k : ByteArray) : Bool × Int := if okM m [k] = true then (hasB k (mkeys m), 0) else (false, 6)
set_option linter.unusedSimpArgs false in
set_option maxRecDepth 100000 in
set_option maxHeartbeats 6400000 in
theorem pLookup_any (m k : ByteArray) (hm : m.size ≤ 281474976710656) (hk : k.size ≤ 281474976710656) (w : World) :
    Calls Tryz.prog 19 #[.string m, .string k] w (RetV w (lookM m k)) := by
  have HX := Lib.hid (fun w => isMap_any m hm w)
  have HVk := Lib.hid (fun w => valid_any k hk w)
  cases h6 : isK 6 m with
  | false =>
    rw [h6] at HX
    have HR : Hid (lookM m k = (⟨#[]⟩, 6)) := Lib.hid (by
      have e : okM m [k] = false := by unfold okM; simp [h6]
      unfold lookM; rw [e]; rfl)
    generalize lookM m k = r at *
    clear h6
    go_enter Tryz.func19, Tryz.ntmps19
    go_wp2_with fail
    refine (HX.out _).mono ?_
    rintro e w1 ⟨rfl, hb1⟩
    have HB1 := hide hb1
    clear hb1
    go_wp2_with fail
    go_ret2
    exact ⟨by rw [HR.out]; rfl, unhide HB1⟩
  | true =>
    rw [h6] at HX
    cases h5k : valB 32 k with
    | false =>
      rw [h5k] at HVk
      have HR : Hid (lookM m k = (⟨#[]⟩, 6)) := Lib.hid (by
        have e : okM m [k] = false := by unfold okM; simp [h6, h5k]
        unfold lookM; rw [e]; rfl)
      generalize lookM m k = r at *
      clear h6 h5k
      go_enter Tryz.func19, Tryz.ntmps19
      go_wp2_with fail
      refine (HX.out _).mono ?_
      rintro e w1 ⟨rfl, hb1⟩
      have HB1 := hide hb1
      clear hb1
      go_wp2_with fail
      refine (HVk.out _).mono ?_
      rintro e w2 ⟨rfl, hb2⟩
      have HB2 := hide ((unhide HB1).trans (hb2.mono (unhide HB1).size))
      clear hb2
      go_wp2_with fail
      go_ret2
      exact ⟨by rw [HR.out]; rfl, unhide HB2⟩
    | true =>
      rw [h5k] at HVk
      have hok : okM m [k] = true := by unfold okM; simp [h6, h5k]
      have hpm := pt_map h6
      have HPR := Lib.hid (fun w => ppairs_any m hm hpm.2.1 w)
      have HLK := Lib.hid (ev_le m)
      have HLV := Lib.hid (od_le m)
      have HR : Hid (lookM m k = if idxB k (mkeys m) 0 < 0 then (⟨#[]⟩, 12) else (getS (mvals m) (idxB k (mkeys m) 0), 0)) := Lib.hid (by unfold lookM; rw [if_pos hok])
      have hlen := mlen m
      generalize lookM m k = r at *
      change Hid (∀ w, Calls _ _ _ w (RowRR w (mkeys m) (mvals m))) at HPR
      change Hid ((mkeys m).length ≤ 65536) at HLK
      change Hid ((mvals m).length ≤ 65536) at HLV
      generalize mkeys m = ks at *
      generalize mvals m = vs at *
      have HLEN := Lib.hid hlen
      clear hok hpm h6 h5k hlen
      have HIX := Lib.hid (fun A n c w hn hr => index_any ks k A n c w hn (by have := HLK.out; omega) hr)
      go_enter Tryz.func19, Tryz.ntmps19
      go_wp2_with fail
      refine (HX.out _).mono ?_
      rintro e w1 ⟨rfl, hb1⟩
      have HB1 := hide hb1
      clear hb1
      go_wp2_with fail
      refine (HVk.out _).mono ?_
      rintro e w2 ⟨rfl, hb2⟩
      have HB2 := hide ((unhide HB1).trans (hb2.mono (unhide HB1).size))
      clear hb2
      go_wp2_with fail
      refine (HPR.out _).mono ?_
      rintro e w5 ⟨S5, S6, c5, c6, n5, n6, rfl, hn5, hn6, hT⟩
      have HB5 := hide ((unhide HB2).trans (hT.below.mono (unhide HB2).size))
      have HN5 := Lib.hid hn5
      have HN6 := Lib.hid hn6
      have hnb : n5 ≤ 65536 := by rw [hn5]; exact HLK.out
      have hnb6 : n6 ≤ 65536 := by rw [hn6]; exact HLV.out
      have HI5 := hide (InC.own hT.ok)
      have HI6 := hide (InC.own hT.ov)
      have HT := hide hT
      clear hn5 hn6 hT
      go_wp2_with fail
      refine (HIX.out _ _ _ _ HN5.out (unhide HI5)).mono ?_
      rintro e w6 ⟨rfl, hw6⟩
      subst w6
      rcases idxB_has (x := k) (ps := ks) (i := 0) with ⟨-, j, h2, h3, h4, -⟩ | ⟨-, h2⟩
      · rw [Nat.zero_add] at h2
        obtain ⟨u, hu⟩ : ∃ u, vs[j]? = some u := ⟨vs[j]'(by have := HLEN.out; omega), List.getElem?_eq_getElem _⟩
        have HR2 : Hid (r = (u, 0)) := Lib.hid (by rw [HR.out, h2, if_neg (by omega)]; unfold getS; rw [Int.toNat_natCast, hu]; rfl)
        have hj6 : j < n6 := by have := HN6.out; have := HLEN.out; omega
        obtain ⟨b6, o6, hS6, hb6, hc6⟩ := at1s (unhide HI6) (i := j) (u := .string u) (by rw [List.getElem?_map, hu]; rfl)
        subst hS6
        rw [h2]
        clear h2 h3 h4 hu HR
        go_wp2_with fail
        go_ret2
        exact ⟨by rw [HR2.out]; rfl, unhide HB5⟩
      · have HR2 : Hid (r = (⟨#[]⟩, 12)) := Lib.hid (by rw [HR.out, h2, if_pos (by decide)])
        rw [h2]
        clear h2 HR
        go_wp2_with fail
        go_ret2
        exact ⟨by rw [HR2.out]; rfl, unhide HB5⟩
set_option linter.unusedSimpArgs false in
set_option maxRecDepth 100000 in
set_option maxHeartbeats 6400000 in
theorem pHasKey_any (m k : ByteArray) (hm : m.size ≤ 281474976710656) (hk : k.size ≤ 281474976710656) (w : World) :
    Calls Tryz.prog 21 #[.string m, .string k] w (RetB w (hasM m k)) := by
  have HX := Lib.hid (fun w => isMap_any m hm w)
  have HVk := Lib.hid (fun w => valid_any k hk w)
  cases h6 : isK 6 m with
  | false =>
    rw [h6] at HX
    have HR : Hid (hasM m k = (false, 6)) := Lib.hid (by
      have e : okM m [k] = false := by unfold okM; simp [h6]
      unfold hasM; rw [e]; rfl)
    generalize hasM m k = r at *
    clear h6
    go_enter Tryz.func21, Tryz.ntmps21
    go_wp2_with fail
    refine (HX.out _).mono ?_
    rintro e w1 ⟨rfl, hb1⟩
    have HB1 := hide hb1
    clear hb1
    go_wp2_with fail
    go_ret2
    exact ⟨by rw [HR.out]; rfl, unhide HB1⟩
  | true =>
    rw [h6] at HX
    cases h5k : valB 32 k with
    | false =>
      rw [h5k] at HVk
      have HR : Hid (hasM m k = (false, 6)) := Lib.hid (by
        have e : okM m [k] = false := by unfold okM; simp [h6, h5k]
        unfold hasM; rw [e]; rfl)
      generalize hasM m k = r at *
      clear h6 h5k
      go_enter Tryz.func21, Tryz.ntmps21
      go_wp2_with fail
      refine (HX.out _).mono ?_
      rintro e w1 ⟨rfl, hb1⟩
      have HB1 := hide hb1
      clear hb1
      go_wp2_with fail
      refine (HVk.out _).mono ?_
      rintro e w2 ⟨rfl, hb2⟩
      have HB2 := hide ((unhide HB1).trans (hb2.mono (unhide HB1).size))
      clear hb2
      go_wp2_with fail
      go_ret2
      exact ⟨by rw [HR.out]; rfl, unhide HB2⟩
    | true =>
      rw [h5k] at HVk
      have hok : okM m [k] = true := by unfold okM; simp [h6, h5k]
      have hpm := pt_map h6
      have HPR := Lib.hid (fun w => ppairs_any m hm hpm.2.1 w)
      have HLK := Lib.hid (ev_le m)
      have HLV := Lib.hid (od_le m)
      have HR : Hid (hasM m k = (hasB k (mkeys m), 0)) := Lib.hid (by unfold hasM; rw [if_pos hok])
      generalize hasM m k = r at *
      change Hid (∀ w, Calls _ _ _ w (RowRR w (mkeys m) (mvals m))) at HPR
      change Hid ((mkeys m).length ≤ 65536) at HLK
      change Hid ((mvals m).length ≤ 65536) at HLV
      generalize mkeys m = ks at *
      generalize mvals m = vs at *
      clear hok hpm h6 h5k
      have HIX := Lib.hid (fun A n c w hn hr => contains_any ks k A n c w hn (by have := HLK.out; omega) hr)
      generalize hasB k ks = z at *
      go_enter Tryz.func21, Tryz.ntmps21
      go_wp2_with fail
      refine (HX.out _).mono ?_
      rintro e w1 ⟨rfl, hb1⟩
      have HB1 := hide hb1
      clear hb1
      go_wp2_with fail
      refine (HVk.out _).mono ?_
      rintro e w2 ⟨rfl, hb2⟩
      have HB2 := hide ((unhide HB1).trans (hb2.mono (unhide HB1).size))
      clear hb2
      go_wp2_with fail
      refine (HPR.out _).mono ?_
      rintro e w5 ⟨S5, S6, c5, c6, n5, n6, rfl, hn5, hn6, hT⟩
      have HB5 := hide ((unhide HB2).trans (hT.below.mono (unhide HB2).size))
      have HN5 := Lib.hid hn5
      have HN6 := Lib.hid hn6
      have hnb : n5 ≤ 65536 := by rw [hn5]; exact HLK.out
      have hnb6 : n6 ≤ 65536 := by rw [hn6]; exact HLV.out
      have HI5 := hide (InC.own hT.ok)
      have HI6 := hide (InC.own hT.ov)
      have HT := hide hT
      clear hn5 hn6 hT
      go_wp2_with fail
      refine (HIX.out _ _ _ _ HN5.out (unhide HI5)).mono ?_
      rintro e w6 ⟨rfl, hw6⟩
      subst w6
      go_wp2_with fail
      go_ret2
      exact ⟨by rw [HR.out]; rfl, unhide HB5⟩
set_option linter.unusedSimpArgs false in
set_option maxRecDepth 100000 in
set_option maxHeartbeats 6400000 in
theorem rLookup_any (m k : ByteArray) (hm : m.size ≤ 281474976710656) (hk : k.size ≤ 281474976710656) (w : World) :
    Calls Tryz.prog 20 #[.string m, .string k] w (RetV w (lookM m k)) := by
  have HX := Lib.hid (fun w => rkind_any m hm w)
  have HVk := Lib.hid (fun w => rvalid_any k hk w)
  cases h6 : isK 6 m with
  | false =>
    have HR : Hid (lookM m k = (⟨#[]⟩, 6)) := Lib.hid (by
      have e : okM m [k] = false := by unfold okM; simp [h6]
      unfold lookM; rw [e]; rfl)
    generalize lookM m k = r at *
    have hk6 := kind_nomap h6
    generalize kindM m = kk at *
    clear h6
    go_enter Tryz.func20, Tryz.ntmps20
    go_wp2_with fail
    refine (HX.out _).mono ?_
    rintro e w1 ⟨rfl, hb1⟩
    have HB1 := hide hb1
    clear hb1
    go_wp2_with fail
    go_ret2
    exact ⟨by rw [HR.out]; rfl, unhide HB1⟩
  | true =>
    rw [kind_map h6] at HX
    cases h5k : valB 32 k with
    | false =>
      rw [h5k] at HVk
      have HR : Hid (lookM m k = (⟨#[]⟩, 6)) := Lib.hid (by
        have e : okM m [k] = false := by unfold okM; simp [h6, h5k]
        unfold lookM; rw [e]; rfl)
      generalize lookM m k = r at *
      clear h6 h5k
      go_enter Tryz.func20, Tryz.ntmps20
      go_wp2_with fail
      refine (HX.out _).mono ?_
      rintro e w1 ⟨rfl, hb1⟩
      have HB1 := hide hb1
      clear hb1
      go_wp2_with fail
      refine (HVk.out _).mono ?_
      rintro e w2 ⟨rfl, hb2⟩
      have HB2 := hide ((unhide HB1).trans (hb2.mono (unhide HB1).size))
      clear hb2
      go_wp2_with fail
      go_ret2
      exact ⟨by rw [HR.out]; rfl, unhide HB2⟩
    | true =>
      rw [h5k] at HVk
      have hok : okM m [k] = true := by unfold okM; simp [h6, h5k]
      have hpm := pt_map h6
      have HPR := Lib.hid (fun w => rkeyed_any m hm hpm.2.1 w)
      have HLK := Lib.hid (ev_le m)
      have HLV := Lib.hid (od_le m)
      have HR : Hid (lookM m k = if idxB k (mkeys m) 0 < 0 then (⟨#[]⟩, 12) else (getS (mvals m) (idxB k (mkeys m) 0), 0)) := Lib.hid (by unfold lookM; rw [if_pos hok])
      have hlen := mlen m
      generalize lookM m k = r at *
      change Hid (∀ w, Calls _ _ _ w (RowRR w (mkeys m) (mvals m))) at HPR
      change Hid ((mkeys m).length ≤ 65536) at HLK
      change Hid ((mvals m).length ≤ 65536) at HLV
      generalize mkeys m = ks at *
      generalize mvals m = vs at *
      have HLEN := Lib.hid hlen
      clear hok hpm h6 h5k hlen
      go_enter Tryz.func20, Tryz.ntmps20
      go_wp2_with fail
      refine (HX.out _).mono ?_
      rintro e w1 ⟨rfl, hb1⟩
      have HB1 := hide hb1
      clear hb1
      go_wp2_with fail
      refine (HVk.out _).mono ?_
      rintro e w2 ⟨rfl, hb2⟩
      have HB2 := hide ((unhide HB1).trans (hb2.mono (unhide HB1).size))
      clear hb2
      go_wp2_with fail
      refine (HPR.out _).mono ?_
      rintro e w5 ⟨S5, S6, c5, c6, n5, n6, rfl, hn5, hn6, hT⟩
      have HB5 := hide ((unhide HB2).trans (hT.below.mono (unhide HB2).size))
      have HN5 := Lib.hid hn5
      have HN6 := Lib.hid hn6
      have hnb : n5 ≤ 65536 := by rw [hn5]; exact HLK.out
      have hnb6 : n6 ≤ 65536 := by rw [hn6]; exact HLV.out
      have HI5 := hide (InC.own hT.ok)
      have HI6 := hide (InC.own hT.ov)
      have HT := hide hT
      clear hn5 hn6 hT
      go_wp2_with fail
      go_loopw [8] (fun iv wr => ∃ j : Nat, iv = .int .i64 j ∧ j ≤ n5 ∧ Hid (idxB k ks 0 = idxB k (ks.drop j) j) ∧ Hid (wr = w5)) (fun iv _ => n5 - (intOf iv).toNat)
      case atStart => exact ⟨0, rfl, by omega, rfl, rfl⟩
      case round =>
        obtain ⟨j, rfl, hj, hA, hw⟩ := hrel
        by_cases hil : j < n5
        · obtain ⟨u, hu⟩ : ∃ u, ks[j]? = some u := ⟨ks[j]'(by have := HN5.out; omega), List.getElem?_eq_getElem _⟩
          obtain ⟨v, hv⟩ : ∃ v, vs[j]? = some v := ⟨vs[j]'(by have := HN5.out; have := HLEN.out; omega), List.getElem?_eq_getElem _⟩
          have hj6 : j < n6 := by have := HN6.out; have := HN5.out; have := HLEN.out; omega
          obtain ⟨b5, o5, hA1, hb5, hc5⟩ := at1s (unhide HI5) (i := j) (u := .string u) (by rw [List.getElem?_map, hu]; rfl)
          obtain ⟨b6, o6, hA2, hb6, hc6⟩ := at1s (unhide HI6) (i := j) (u := .string v) (by rw [List.getElem?_map, hv]; rfl)
          subst hA1
          subst hA2
          rw [← hw.out] at hc5 hc6
          have HST := Lib.hid (hA.out.trans (idxB_step hu))
          have g := toList_bool u k
          have HVJ := Lib.hid hv
          clear hu hA hv
          by_cases e : u = k
          · rw [decide_eq_true e.symm] at g
            have HE : Hid (r = (v, 0)) := Lib.hid (by rw [HR.out, HST.out, if_pos e, if_neg (by omega)]; unfold getS; rw [Int.toNat_natCast, HVJ.out]; rfl)
            clear e HST
            go_wp2_with fail
            go_ret2
            exact ⟨by rw [HE.out]; rfl, by rw [hw.out]; exact unhide HB5⟩
          · rw [decide_eq_false (fun q => e q.symm)] at g
            have HE : Hid (idxB k ks 0 = idxB k (ks.drop (j + 1)) (j + 1)) := Lib.hid (by rw [HST.out, if_neg e])
            clear e HST
            go_wp2_with fail
            go_roundw
            case rel => exact ⟨j + 1, by go_num, by omega, HE.out, hw.out⟩
            case measure => simp [intOf]; omega
        · have HE : Hid (r = (⟨#[]⟩, 12)) := Lib.hid (by
            rw [HR.out, hA.out, List.drop_eq_nil_of_le (by have := HN5.out; omega)]; rfl)
          go_wp2_with fail
          go_ret2
          exact ⟨by rw [HE.out]; rfl, by rw [hw.out]; exact unhide HB5⟩
theorem look_has (m k : ByteArray) : hasM m k = if (lookM m k).2 = 6 then (false, (lookM m k).2) else (decide ((lookM m k).2 = 0), 0) := by
  unfold hasM lookM
  by_cases h : okM m [k] = true
  · rw [if_pos h, if_pos h]
    rcases idxB_has (x := k) (ps := mkeys m) (i := 0) with ⟨h1, j, h2, _⟩ | ⟨h1, h2⟩
    · have hl : ¬ idxB k (mkeys m) 0 < 0 := by rw [h2]; omega
      rw [if_neg hl, h1]; rfl
    · have hl : idxB k (mkeys m) 0 < 0 := by rw [h2]; decide
      rw [if_pos hl, h1]; rfl
  · rw [if_neg h, if_neg h]; rfl
set_option linter.unusedSimpArgs false in
set_option maxRecDepth 100000 in
set_option maxHeartbeats 6400000 in
theorem rHasKey_any (m k : ByteArray) (hm : m.size ≤ 281474976710656) (hk : k.size ≤ 281474976710656) (w : World) :
    Calls Tryz.prog 22 #[.string m, .string k] w (RetB w (hasM m k)) := by
  have H := Lib.hid (fun w => rLookup_any m k hm hk w)
  have HR := Lib.hid (look_has m k)
  unfold RetV at H
  generalize hasM m k = r at *
  generalize lookM m k = q at *
  obtain ⟨s, z⟩ := q
  have HR2 : Hid (r = if z = 6 then (false, z) else (decide (z = 0), 0)) := Lib.hid HR.out
  clear HR
  by_cases hz : z = 6
  · subst hz
    go_enter Tryz.func22, Tryz.ntmps22
    go_wp2_with fail
    refine (H.out _).mono ?_
    rintro e w1 ⟨rfl, hb1⟩
    have HB1 := hide hb1
    clear hb1
    go_wp2_with fail
    go_ret2
    exact ⟨by rw [HR2.out]; rfl, unhide HB1⟩
  · have HR3 : Hid (r = (decide (z = 0), 0)) := Lib.hid (by rw [HR2.out, if_neg hz])
    go_enter Tryz.func22, Tryz.ntmps22
    go_wp2_with fail
    refine (H.out _).mono ?_
    rintro e w1 ⟨rfl, hb1⟩
    have HB1 := hide hb1
    clear hb1
    go_wp2_with fail
    go_ret2
    exact ⟨by rw [HR3.out]; rfl, unhide HB1⟩

end Go.Proofs.YtaambeficfiacaaGreat
