/- The reference's walk at values with parts. Condition: at most 1048576 bytes; what parted says is given where the parts are checked. -/
import Derived.Test.YtaambeficfiacaaGreatDoorVrB
namespace Go.Proofs.YtaambeficfiacaaGreatDoor
open Go.RowKit VM

def joinD (l : List V) (o : Option (List V × List UInt8)) : Option (List V × List UInt8) := match o with
  | none => none
  | some (l', r) => some (l ++ l', r)
theorem joinD_nil (o : Option (List V × List UInt8)) : joinD [] o = o := by cases o <;> rfl
theorem joinD_none {rd : List UInt8 → Option (V × List UInt8)} {m : Nat} {l : List V} {s : List UInt8} (h : rd s = none) : joinD l (decs rd (m + 1) s) = none := by
  unfold decs; rw [h]; rfl
theorem joinD_step {rd : List UInt8 → Option (V × List UInt8)} {m : Nat} {l : List V} {s r : List UInt8} {v : V} (h : rd s = some (v, r)) : joinD l (decs rd (m + 1) s) = joinD (l ++ [v]) (decs rd m r) := by
  conv => lhs; unfold decs
  rw [h]
  simp only
  cases decs rd m r with
  | none => rfl
  | some q => simp [joinD]
def wkF (b : Bool) (d : Nat) (k : UInt8) (o : Option (List V × List UInt8)) : Option (V × List UInt8) := match o with
  | some (l, r) => if (!b || parted (ord d) k l) = true then some (.comp k l, r) else none
  | none => none
theorem wkF_true {d : Nat} {k : UInt8} {l : List V} {r : List UInt8} (h : parted (ord d) k l = true) : wkF true d k (some (l, r)) = some (.comp k l, r) := by
  show (if (!true || parted (ord d) k l) = true then some (V.comp k l, r) else none) = _
  rw [h]; rfl
theorem wkF_bad {d : Nat} {k : UInt8} {l : List V} {r : List UInt8} (h : parted (ord d) k l = false) : wkF true d k (some (l, r)) = none := by
  show (if (!true || parted (ord d) k l) = true then some (V.comp k l, r) else none) = _
  rw [h]; rfl
theorem decC_comp (b : Bool) (d : Nat) (k a c : UInt8) (r : List UInt8) (hc : isComp k = true) : decC b (d + 1) (k :: a :: c :: r) = wkF b d k (decs (decC b d) (u16 a c) r) := by
  have hk : k ≠ 1 ∧ k ≠ 2 ∧ k ≠ 10 := by
    unfold isComp at hc
    rw [decide_eq_true_eq] at hc
    refine ⟨?_, ?_, ?_⟩ <;> (rintro rfl; simp at hc)
  conv => lhs; unfold decC
  rw [if_neg hk.1, if_neg hk.2.1, if_neg hk.2.2, if_pos hc]
  simp only
  cases decs (decC b d) (u16 a c) r with
  | none => rfl
  | some q => rfl

set_option linter.unusedSimpArgs false in
set_option maxRecDepth 100000 in
set_option maxHeartbeats 12800000 in
theorem walk_comp (b : Bool) (d : Nat) (hd : d ≤ 1000) (ih : WkCon b d) (hp : b = true → PtCon d) (s : ByteArray) (k a c : UInt8) (r : List UInt8) (h : bs s = k :: a :: c :: r) (hc : isComp k = true) (hb : s.size ≤ 1048576) (w : World) :
    Calls Tryz.prog 53 #[.string s, .int .i64 ((d + 1 : Nat) : Int), .bool b] w (WkPost (decC b (d + 1) (k :: a :: c :: r)) s.size (d + 1) w) := by
  rw [decC_comp b d k a c r hc]
  obtain ⟨z1, z2, z3⟩ := drop0 h
  have gd : ((d : Int) + 1 == 0) = false := beq_eq_false_iff_ne.2 (by omega)
  have hs3 : 3 ≤ s.size := by simp at z1; omega
  have hs0 : 0 < s.size := by omega
  have hs1 : 1 < s.size := by omega
  have hs2 : 2 < s.size := by omega
  have e0 := z2 hs0
  have e1 : s[1] = a := by have := z3 0 hs1; exact (Option.some.inj this).symm
  have e2 : s[2] = c := by have := z3 1 hs2; exact (Option.some.inj this).symm
  have wk : wrap64 (k.toNat : Int) = (k.toNat : Int) := IntWalk.wrap64_in _ (by have := k.toNat_lt; omega)
  have hor := or_i64 a.toNat c.toNat (by have := a.toNat_lt; omega) c.toNat_lt
  have w1 : wrap64 (a.toNat : Int) = (a.toNat : Int) := IntWalk.wrap64_in _ (by have := a.toNat_lt; omega)
  have w2 : wrap64 (c.toNat : Int) = (c.toNat : Int) := IntWalk.wrap64_in _ (by have := c.toNat_lt; omega)
  have w3 : wrap64 ((a.toNat : Int) * 256) = (a.toNat : Int) * 256 := IntWalk.wrap64_in _ (by have := a.toNat_lt; omega)
  have hk39 : 3 ≤ k.toNat ∧ k.toNat ≤ 9 := by unfold isComp at hc; exact of_decide_eq_true hc
  have n1 : ((k.toNat : Int) == 1) = false := beq_eq_false_iff_ne.2 (by omega)
  have n2 : ((k.toNat : Int) == 2) = false := beq_eq_false_iff_ne.2 (by omega)
  have n3 : ((k.toNat : Int) == 10) = false := beq_eq_false_iff_ne.2 (by omega)
  have hu : ((a.toNat * 256 + c.toNat : Nat) : Int) = ((u16 a c : Nat) : Int) := rfl
  have hn := u16_lt a c
  have hd3 : (bs s).drop 3 = r := by rw [h]; rfl
  have hj : decs (decC b d) (u16 a c) r = joinD [] (decs (decC b d) (u16 a c - 0) ((bs s).drop 3)) := by rw [joinD_nil, hd3]; rfl
  have HJ0 := Lib.hid hj
  have HIH := Lib.hid ih
  have HPT := Lib.hid hp
  have HISC := Lib.hid hc
  obtain ⟨i0, hi0, hiz0, hiz1, hiz2⟩ := info_parts val_info
  obtain ⟨D, hD⟩ : ∃ D, decs (decC b d) (u16 a c) r = D := ⟨_, rfl⟩
  rw [hD] at HJ0
  rw [hD]
  clear z1 z2 z3 h ih hp hd3 hj hD hc
  generalize u16 a c = n at *
  have hu2 : (a.toNat : Int) * 256 + (c.toNat : Int) = (n : Int) := by omega
  go_enter Tryz.func53, Tryz.ntmps53
  go_wp2_with fail
  go_quiet (fail)
  go_wp2_with fail
  go_loopw [11, 12, 13, 14] (fun av dv pv iv wr => ∃ (j q dd : Nat) (ps : List ByteArray) (l : List V), iv = .int .i64 j ∧ av = .int .i64 q ∧ dv = .int .i64 dd ∧ j ≤ n ∧ q ≤ s.size ∧ dd ≤ d ∧ Hid (ps.length = j) ∧ Hid (wr.ownsRow w.heap.size 22 1 pv j (ps.map Value.string)) ∧ Hid (ps.map bs = l.map enc) ∧ Hid (l.all (fun v => !b || wf d v) = true) ∧ Hid (∀ s ∈ ps, s.size ≤ 1048576) ∧ Hid (D = joinD l (decs (decC b d) (n - j) ((bs s).drop q))) ∧ Hid (Below w.heap.size w wr)) (fun _ _ _ iv _ => n - (intOf iv).toNat)
  case atStart => exact ⟨0, 3, 0, [], [], rfl, rfl, rfl, by omega, hs3, by omega, rfl, World.ownsRow_nil _ _ _ _, rfl, rfl, (by intro s h; cases h), HJ0, below_drewN (Below.refl _ _) nq⟩
  case round =>
    obtain ⟨j, q, dd, ps, l, rfl, rfl, rfl, hj, hq, hdd, hpl, hR, hPS, hWF, hSZ, hJ, hB⟩ := hrel
    obtain ⟨A3, c3, rfl⟩ := owns_form hR.out
    by_cases hjn : j < n
    · have hni : n - j = (n - (j + 1)) + 1 := by omega
      have hJ1 := hJ.out
      rw [hni] at hJ1
      have hzz : (s.extract q s.size).size = s.size - q := by
        have := congrArg List.length (bs_extract s q)
        rw [bs_size, List.length_drop, bs_size] at this
        exact this
      have HE := Lib.hid (fun w => HIH.out (s.extract q s.size) w (by omega))
      have hd1 : ((d : Nat) : Int) = ((d + 1 : Nat) : Int) - 1 := by omega
      have hE0 := bs_extract s q
      cases hdec : decC b d ((bs s).drop q) with
      | none =>
        rw [joinD_none hdec] at hJ1
        rw [hE0, hdec] at HE
        rw [hJ1]
        clear hJ hJ1 hdec hE0 hd1 hni hu
        go_wp2_with fail
        refine (HE.out wr).mono ?_
        rintro e w3 hW3
        obtain ⟨rfl, hb3⟩ := hW3
        have HB3 := hide (hB.out.trans (hb3.mono hB.out.size))
        clear hb3
        go_wp2_with fail
        go_ret3
        exact wk_none rfl (unhide HB3)
      | some z =>
        obtain ⟨v, rr⟩ := z
        obtain ⟨g1, g2⟩ := decC_ok b d _ _ _ hdec
        rw [joinD_step hdec] at hJ1
        rw [hE0, hdec] at HE
        have hv0 : 0 < (enc v).length := by cases v <;> exact Nat.succ_pos _
        have hlen := congrArg List.length g1
        rw [List.length_drop, bs_size, List.length_append] at hlen
        obtain ⟨z, hz⟩ : ∃ z, z = (s.extract q s.size).size - rr.length := ⟨_, rfl⟩
        have hz1 : 0 < z := by omega
        have hz2 : q + z ≤ s.size := by omega
        have hz3 : z = (enc v).length := by omega
        have gz : ((z : Int) == 0) = false := beq_eq_false_iff_ne.2 (by omega)
        have HPT2 : Hid (bs (s.extract q (q + z)) = enc v) := Lib.hid (by
          rw [bs_window, g1]
          exact List.take_left' (by omega))
        have HDR : Hid ((bs s).drop (q + z) = rr) := Lib.hid (by
          rw [hz3, ← List.drop_drop, g1, List.drop_left])
        have hpz : (s.extract q (q + z)).size ≤ 1048576 := by rw [← bs_size, HPT2.out]; omega
        have HPS2 : Hid ((ps ++ [s.extract q (q + z)]).map bs = (l ++ [v]).map enc) := Lib.hid (by rw [List.map_append, List.map_append, hPS.out]; simp [HPT2.out])
        have HWF2 : Hid ((l ++ [v]).all (fun v => !b || wf d v) = true) := Lib.hid (by rw [List.all_append, hWF.out]; simpa using g2)
        have HSZ2 : Hid (∀ s' ∈ ps ++ [s.extract q (q + z)], s'.size ≤ 1048576) := Lib.hid (by
          intro x hx
          rcases List.mem_append.1 hx with hx | hx
          · exact hSZ.out x hx
          · rw [List.mem_singleton.1 hx]; exact hpz)
        have HJ2 : Hid (D = joinD (l ++ [v]) (decs (decC b d) (n - (j + 1)) ((bs s).drop (q + z)))) := Lib.hid (by rw [HDR.out]; exact hJ1)
        clear hJ hJ1 hdec hE0 hd1 hni hu g1 g2 hv0 hlen hz3 HPT2 HDR hPS hWF hSZ
        go_wp2_with fail
        refine (HE.out wr).mono ?_
        rintro e w3 hW3
        obtain ⟨A4, c4, ps4, dd4, rfl, hdd4, hown4, _, hb3⟩ := hW3
        rw [← hz]
        have HB3 := hide (hB.out.trans (hb3.mono hB.out.size))
        have HR3 := hide (owns_below hR.out hb3)
        have hz9 := (unhide HB3).size
        clear hb3 hown4 HE hB hR hz
        go_wp2_with (at_builtin; refine wpList_app _ rfl _ _ 36 rfl w.heap.size 22 i0 _ 1 16 Tryz.underlying36 hi0 hiz0 hiz1 hiz2 rfl (by decide) _ j (ps.map Value.string) rfl ((unhide HR3).alloc _) _ 1 1 [.string (s.extract q (q + z))] rfl rfl (new_in _ _ #[.string (s.extract q (q + z))]) (by intro x hx; simp at hx; subst hx; rfl) (by unfold maxLen; omega) (by omega) (by simp; omega) ?_; intro v9 w9 hown9 hgrow9 _)
        have HB9 := hide (below_app ((unhide HB3).alloc hz9 _) ((unhide HR3).alloc _) hgrow9)
        have HR9 := hide hown9
        clear hown9 hgrow9
        go_roundw
        case rel => exact ⟨j + 1, q + z, max dd dd4, _, _, by go_num, by go_num, by rw [show ((max dd dd4 : Nat) : Int) = if dd < dd4 then (dd4 : Int) else (dd : Int) by split <;> omega], by omega, by omega, by omega, Lib.hid (by rw [List.length_append, hpl.out]; rfl), (by show World.ownsRow _ _ _ _ _ _ _; rw [List.map_append]; exact unhide HR9), HPS2.out, HWF2.out, HSZ2.out, HJ2.out, unhide HB9⟩
        case measure => simp [intOf]; omega
    · have hjn2 : j = n := by omega
      subst hjn2
      have HD9 : Hid (D = some (l, (bs s).drop q)) := Lib.hid (by rw [hJ.out, Nat.sub_self]; simp [decs, joinD])
      have hln : l.length = j := by
        have := congrArg List.length hPS.out
        rw [List.length_map, List.length_map, hpl.out] at this
        exact this.symm
      have hdl : ((bs s).drop q).length = s.size - q := by rw [List.length_drop, bs_size]
      have hout : s.size - ((bs s).drop q).length = q := by omega
      clear hJ hu hdl
      cases b with
      | false =>
        have HW9 : Hid (wkF false d k D = some (.comp k l, (bs s).drop q)) := Lib.hid (by rw [HD9.out]; rfl)
        go_wp2_with fail
        go_ret3
        rw [HW9.out]
        refine ⟨A3, c3, ps, dd + 1, ?_, by omega, by rw [hpl.out]; exact hR.out, hPS.out, hB.out⟩
        rw [hpl.out, hout]
        go_num
      | true =>
        have HWA : Hid (l.all (wf d) = true) := Lib.hid (by
          have := hWF.out
          simpa using this)
        have HPQ := Lib.hid (fun w hr => HPT.out rfl k l ps A3 j c3 w hpl.out.symm (by omega) HISC.out HWA.out hPS.out hSZ.out hr)
        cases hpt : parted (ord d) k l with
        | true =>
          have HW9 : Hid (wkF true d k D = some (.comp k l, (bs s).drop q)) := Lib.hid (by rw [HD9.out]; exact wkF_true hpt)
          rw [hpt] at HPQ
          clear hpt
          go_wp2_with fail
          refine (HPQ.out wr (InC.own hR.out)).mono ?_
          rintro e w5 ⟨rfl, hb5⟩
          have HR5 := hide (owns_below hR.out hb5)
          have HB5 := hide (hB.out.trans (hb5.mono hB.out.size))
          clear hb5
          go_wp2_with fail
          go_ret3
          rw [HW9.out]
          refine ⟨A3, c3, ps, dd + 1, ?_, by omega, by rw [hpl.out]; exact unhide HR5, hPS.out, unhide HB5⟩
          rw [hpl.out, hout]
          go_num
        | false =>
          have HW9 : Hid (wkF true d k D = none) := Lib.hid (by rw [HD9.out]; exact wkF_bad hpt)
          rw [hpt] at HPQ
          clear hpt
          go_wp2_with fail
          refine (HPQ.out wr (InC.own hR.out)).mono ?_
          rintro e w5 ⟨rfl, hb5⟩
          have HB5 := hide (hB.out.trans (hb5.mono hB.out.size))
          clear hb5
          go_wp2_with fail
          go_ret3
          exact wk_none HW9.out (unhide HB5)

end Go.Proofs.YtaambeficfiacaaGreatDoor
