/- The reference's Member, BigUnion and BigInter. Conditions: strings of at most 2^48 bytes. -/
-- by tools/gen_fnt.py
import Derived.Test.YtaambeficfiacaaGreatFnS
namespace Go.Proofs.YtaambeficfiacaaGreat
open Go.RowKit Go.Shelf VM

set_option linter.unusedSimpArgs false in
set_option maxRecDepth 100000 in
set_option maxHeartbeats 6400000 in
theorem rMember_any (v a : ByteArray) (hv : v.size ≤ 281474976710656) (ha : a.size ≤ 281474976710656) (w : World) :
    Calls Tryz.prog 44 #[.string v, .string a] w (RetB w (memM v a)) := by
  have HV := Lib.hid (fun w => rvalid_any v hv w)
  have HX := Lib.hid (fun w => sets_one a ha w)
  have HPX := Lib.hid (fun w => rpartsO_any a ha w)
  cases h5 : valB 32 v with
  | false =>
    have HR : Hid (memM v a = (false, 6)) := Lib.hid (by unfold memM; rw [if_neg]; rintro ⟨q, _⟩; rw [h5] at q; cases q)
    rw [h5] at HV
    clear h5
    go_enter Tryz.func44, Tryz.ntmps44
    go_wp2_with fail
    refine (HV.out _).mono ?_
    rintro e w1 ⟨rfl, hb1⟩
    have HB1 := hide hb1
    clear hb1
    go_wp2_with fail
    go_ret2
    exact ⟨by rw [HR.out]; rfl, unhide HB1⟩
  | true =>
    rw [h5] at HV
    cases h6 : isK 5 a with
    | false =>
      have HR : Hid (memM v a = (false, 6)) := Lib.hid (by unfold memM; rw [if_neg]; rintro ⟨_, q⟩; rw [h6] at q; cases q)
      rw [h6] at HX
      clear h5 h6
      go_enter Tryz.func44, Tryz.ntmps44
      go_wp2_with fail
      refine (HV.out _).mono ?_
      rintro e w1 ⟨rfl, hb1⟩
      have HB1 := hide (hb1.alloc hb1.size (.cells #[.string a] 22))
      have hz1 := hb1.size
      clear hb1
      go_wp2_with fail
      refine (HX.out _).mono ?_
      rintro e w2 ⟨rfl, hb2⟩
      have HB2 := hide ((unhide HB1).trans (hb2.mono (by omega)))
      clear hb2
      go_wp2_with fail
      go_ret2
      exact ⟨by rw [HR.out]; rfl, unhide HB2⟩
    | true =>
      have HR : Hid (memM v a = (hasB v (pt a), 0)) := Lib.hid (by unfold memM; rw [if_pos ⟨h5, h6⟩])
      have HC := Lib.hid (fun A n c w hn hr => rhas_any (pt a) v A n c w hn (by rw [hn]; have := pt_len a; omega) hr)
      rw [h6] at HX
      generalize hasB v (pt a) = z at *
      generalize pt a = pa at *
      clear h5 h6
      go_enter Tryz.func44, Tryz.ntmps44
      go_wp2_with fail
      refine (HV.out _).mono ?_
      rintro e w1 ⟨rfl, hb1⟩
      have HB1 := hide (hb1.alloc hb1.size (.cells #[.string a] 22))
      have hz1 := hb1.size
      clear hb1
      go_wp2_with fail
      refine (HX.out _).mono ?_
      rintro e w2 ⟨rfl, hb2⟩
      have HB2 := hide ((unhide HB1).trans (hb2.mono (by omega)))
      clear hb2
      go_wp2_with fail
      refine (HPX.out _).mono ?_
      rintro e w3 ⟨S3, c3, n3, rfl, hn3, hO3, hb3⟩
      have HB3 := hide ((unhide HB2).trans (hb3.mono (unhide HB2).size))
      have HN3 := Lib.hid hn3
      have HI3 := hide (InC.own hO3)
      clear hb3 hn3 hO3
      go_wp2_with fail
      refine (HC.out _ _ _ _ HN3.out (unhide HI3)).mono ?_
      rintro e w4 ⟨rfl, rfl⟩
      go_wp2_with fail
      go_ret2
      exact ⟨by rw [HR.out]; rfl, unhide HB3⟩
set_option linter.unusedSimpArgs false in
set_option maxRecDepth 100000 in
set_option maxHeartbeats 6400000 in
theorem rBigUnion_any (x : ByteArray) (hx : x.size ≤ 281474976710656) (w : World) :
    Calls Tryz.prog 53 #[.string x] w (RetV w (bigU x)) := by
  have HX := hide (sets_one x hx w)
  have HB0 : Hid (Below w.heap.size w (w.alloc (.cells #[.string x] 22))) := hide ((Below.refl _ _).alloc (Nat.le_refl _) _)
  have HPX := Lib.hid (fun w => rpartsO_any x hx w)
  cases h5 : isK 5 x with
  | false =>
    have HR : Hid (bigU x = (⟨#[]⟩, 6)) := Lib.hid (by unfold bigU okS; rw [h5]; rfl)
    rw [h5] at HX
    clear h5
    go_enter Tryz.func53, Tryz.ntmps53
    go_wp2_with fail
    refine (unhide HX).mono ?_
    rintro e w1 ⟨rfl, hb1⟩
    have HB1 := hide ((unhide HB0).trans (hb1.mono (by omega)))
    clear hb1
    go_wp2_with fail
    go_ret2
    exact ⟨by rw [HR.out]; rfl, unhide HB1⟩
  | true =>
    have HSA := Lib.hid (fun A n c w hn hr => rsets_any (pt x) A n c w hn (by rw [hn]; have := pt_len x; omega) (pt_size48 x) hr)
    rw [h5] at HX
    cases h6 : (pt x).all (isK 5) with
    | false =>
      have HR : Hid (bigU x = (⟨#[]⟩, 6)) := Lib.hid (by unfold bigU okS; rw [h5, h6]; rfl)
      rw [h6] at HSA
      clear h5 h6
      generalize pt x = px at *
      go_enter Tryz.func53, Tryz.ntmps53
      go_wp2_with fail
      refine (unhide HX).mono ?_
      rintro e w1 ⟨rfl, hb1⟩
      have HB1 := hide ((unhide HB0).trans (hb1.mono (by omega)))
      clear hb1
      go_wp2_with fail
      refine (HPX.out _).mono ?_
      rintro e w3 ⟨S3, c3, n3, rfl, hn3, hO3, hb3⟩
      have HB3 := hide ((unhide HB1).trans (hb3.mono (unhide HB1).size))
      have HN3 := Lib.hid hn3
      have HI3 := hide (InC.own hO3)
      clear hb3 hn3 hO3
      go_wp2_with fail
      refine (HSA.out _ _ _ _ HN3.out (unhide HI3)).mono ?_
      rintro e w4 ⟨rfl, hb4⟩
      have HB4 := hide ((unhide HB3).trans (hb4.mono (unhide HB3).size))
      clear hb4
      go_wp2_with fail
      go_ret2
      exact ⟨by rw [HR.out]; rfl, unhide HB4⟩
    | true =>
      have hok : okS x = true := by unfold okS; rw [h5, h6]; rfl
      rw [h6] at HSA
      have HPU := Lib.hid (fun u (hu : u ∈ pt x) w => rpartsO_any u (pt_size48 x u hu) w)
      have hfl := flat_pt_len (pt x)
      have hpt := pt_tot x
      have HFL := Lib.hid (fun k => show ((pt x).take k |>.flatMap pt).length ≤ 65536 by have := flat_take_len (pt x) k; omega)
      have HBN := Lib.hid (fun A n c w (hn : n = ((pt x).flatMap pt).length) hr => rbounded_any ((pt x).flatMap pt) A n c w hn (by omega) (fun s hs => by
        obtain ⟨v, _, h⟩ := List.mem_flatMap.1 hs
        exact pt_size48 v s h) hr)
      have HR : Hid (bigU x = bnd ((pt x).flatMap pt)) := Lib.hid (by unfold bigU; rw [if_pos hok])
      have HTK := Lib.hid (fun k v (h : (pt x)[k]? = some v) => flat_ptk h)
      have HLP := Lib.hid (pt_len x)
      generalize bigU x = r at *
      generalize bnd ((pt x).flatMap pt) = rr at *
      generalize pt x = ps at *
      obtain ⟨i0, hi0, hiz0, hiz1, hiz2⟩ := info_parts val_info
      clear h5 h6 hfl hpt hok
      go_enter Tryz.func53, Tryz.ntmps53
      go_wp2_with fail
      refine (unhide HX).mono ?_
      rintro e w1 ⟨rfl, hb1⟩
      have HB1 := hide ((unhide HB0).trans (hb1.mono (by omega)))
      clear hb1
      go_wp2_with fail
      refine (HPX.out _).mono ?_
      rintro e w2 ⟨S2, c2, n2, rfl, hn2, hO2, hb2⟩
      have HB2 := hide ((unhide HB1).trans (hb2.mono (unhide HB1).size))
      have HN2 := Lib.hid hn2
      have HI2 := hide (InC.own hO2)
      clear hb2 hn2 hO2
      go_wp2_with fail
      refine (HSA.out _ _ _ _ HN2.out (unhide HI2)).mono ?_
      rintro e w4 ⟨rfl, hb4⟩
      have HB4 := hide ((unhide HB2).trans (hb4.mono (unhide HB2).size))
      clear hb4
      go_wp2_with fail
      refine (HPX.out _).mono ?_
      rintro e w3 ⟨S3, c3, n3, rfl, hn3, hO3, hb3⟩
      have HB3 := hide ((unhide HB4).trans (hb3.mono (unhide HB4).size))
      have HN3 := Lib.hid hn3
      have hnb : n3 ≤ 65536 := by rw [hn3]; exact HLP.out
      have HI3 := hide (InC.own hO3)
      clear hb3 hn3 hO3
      go_wp2_with fail
      go_loopw [4, 6] (fun kv iv wr => ∃ (k q : Nat) (ls : List ByteArray), iv = .int .i64 k ∧ k ≤ n3 ∧ q ≤ 65536 ∧ Hid (q = ls.length) ∧ Hid (ls = (ps.take k).flatMap pt) ∧ Hid (wr.ownsRow w3.heap.size 22 1 kv q (ls.map Value.string)) ∧ Hid (Below w3.heap.size w3 wr)) (fun _ iv _ => n3 - (intOf iv).toNat)
      case atStart => exact ⟨0, 0, [], rfl, by omega, by omega, rfl, by rw [List.take_zero]; rfl, World.ownsRow_nil _ _ _ _, Below.refl _ _⟩
      case round =>
        obtain ⟨k, q, ls, rfl, hk, hq, hql, hls, hO, hB⟩ := hrel
        obtain ⟨A4, c4, rfl⟩ := owns_form hO.out
        by_cases hkL : k < n3
        · have gk : decide ((k : Int) < (n3 : Int)) = true := decide_eq_true (by omega)
          obtain ⟨v, hv⟩ : ∃ v, ps[k]? = some v := ⟨ps[k]'(by have := HN3.out; omega), List.getElem?_eq_getElem _⟩
          obtain ⟨b5, o5, hS3, hb5, hc5⟩ := at1s ((unhide HI3).below hB.out) (i := k) (u := .string v) (by rw [List.getElem?_map, hv]; rfl)
          subst hS3
          have HC := Lib.hid (fun w => HPU.out v (List.mem_of_getElem? hv) w)
          have HLS : Hid (ls ++ pt v = (ps.take (k + 1)).flatMap pt) := Lib.hid (by rw [HTK.out k v hv, hls.out])
          have HF2 := Lib.hid (HFL.out (k + 1))
          clear hv hls
          go_wp2_with fail
          refine (HC.out _).mono ?_
          rintro e w5 ⟨S5, c5, n5, rfl, hn5, hO5, hbb5⟩
          have hB5 := hB.out.trans (hbb5.mono hB.out.size)
          have HO5 := hide (owns_below hO.out hbb5)
          have HI5 := hide (InC.own hO5)
          have HL5 : Hid (((pt v).map Value.string).length = n5 * 1) := Lib.hid (by rw [List.length_map]; omega)
          have HQL : Hid (q + n5 = (ls ++ pt v).length) := Lib.hid (by rw [List.length_append, ← hql.out, hn5])
          have hq5 : q + n5 ≤ 65536 := by rw [HQL.out, HLS.out]; exact HF2.out
          have hz5 := hB5.size
          have HB5 := hide hB5
          clear hn5 hO5 hbb5 hB5 hO hB hc5
          go_wp2_with (at_builtin; refine wpList_app _ rfl _ _ 33 rfl w3.heap.size 22 i0 _ 1 16 Tryz.underlying33 hi0 hiz0 hiz1 hiz2 rfl (by decide) _ q (ls.map Value.string) rfl (unhide HO5) S5 n5 c5 ((pt v).map Value.string) rfl HL5.out (unhide HI5) (str_one (pt v)) (by unfold maxLen; omega) (by omega) hz5 ?_; intro v6 w6 hown6 hgrow6 _)
          have HB6 := hide (below_app (unhide HB5) (unhide HO5) hgrow6)
          have HO6 : Hid (w6.ownsRow w3.heap.size 22 1 v6 (q + n5) ((ls ++ pt v).map Value.string)) := hide (by rw [List.map_append]; exact hown6)
          clear hown6 hgrow6
          go_wp2_with fail
          go_roundw
          case rel => exact ⟨k + 1, q + n5, ls ++ pt v, by go_num, by omega, by omega, HQL.out, HLS.out, unhide HO6, unhide HB6⟩
          case measure => simp [intOf]; omega
        · have HLE : Hid (ls = ps.flatMap pt) := Lib.hid (by rw [hls.out, List.take_of_length_le (by have := HN3.out; omega)])
          have HB5 := hide ((unhide HB3).trans (hB.out.mono (unhide HB3).size))
          have HI5 := hide (InC.own hO.out)
          have HQ2 : Hid (q = (ps.flatMap pt).length) := Lib.hid (by rw [← HLE.out]; exact hql.out)
          rw [HLE.out] at HI5
          clear hO hB hls hql HLE
          go_wp2_with fail
          refine (HBN.out _ _ _ _ HQ2.out (unhide HI5)).mono ?_
          rintro e w7 ⟨rfl, hb7⟩
          have HB7 := hide ((unhide HB5).trans (hb7.mono (unhide HB5).size))
          clear hb7
          go_wp2_with fail
          go_ret2
          exact ⟨by rw [HR.out]; rfl, unhide HB7⟩

end Go.Proofs.YtaambeficfiacaaGreat
