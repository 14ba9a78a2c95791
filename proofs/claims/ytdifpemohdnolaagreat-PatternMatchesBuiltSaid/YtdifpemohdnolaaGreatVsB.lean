/- The reference's compound and Make. Conditions: at most 1048576 parts; compound: all parts are values. -/
import Derived.Test.YtdifpemohdnolaaGreatVsI
namespace Go.Proofs.YtdifpemohdnolaaGreat
open Go.RowKit VM

def encP (k : UInt8) (ps : List ByteArray) (j : Nat) : ByteArray := ⟨(codeL k ps j).toArray⟩
theorem encP_size (k : UInt8) (ps : List ByteArray) (j : Nat) : (encP k ps j).size = 3 + totB (ps.take j) := by
  rw [← codeL_len k ps j]; simp [encP, ByteArray.size]
theorem encP_all (k : UInt8) (ps : List ByteArray) {j : Nat} (h : ps.length ≤ j) : encP k ps j = encB k ps := by
  unfold encP encB
  rw [codeL_all k ps h]
theorem encP_step {k : UInt8} {ps : List ByteArray} {j : Nat} {s : ByteArray} (h : ps[j]? = some s) : encP k ps j ++ s = encP k ps (j + 1) := by
  unfold encP codeL
  rw [List.take_add_one, h]
  apply ByteArray.ext
  simp
theorem mkM_no {k : UInt8} {ps : List ByteArray} (h : valB 32 (encB k ps) = false) : mkM k ps = ⟨#[]⟩ := by
  unfold mkM
  rw [if_neg (by rw [h]; simp)]
theorem valB_size {d : Nat} {s : ByteArray} (h : 131072 < s.size) : valB d s = false := by
  unfold valB
  rw [decide_eq_false (by omega)]; rfl
theorem mkM_big {k : UInt8} {ps : List ByteArray} (h : 131072 < 3 + totB ps) : mkM k ps = ⟨#[]⟩ := mkM_no (valB_size (by rw [encB_size]; exact h))
/-- what reading the encoding of parts finds -/
theorem encB_read {k : UInt8} {ps : List ByteArray} (hk : isComp k = true) (hn : ps.length ≤ 65535) {v : V} {r : List UInt8} (h : dec 32 (bs (encB k ps)) = some (v, r)) : ∃ l, v = .comp k l ∧ l.length = ps.length := by
  obtain ⟨h1, h2⟩ := dec_ok 32 _ _ _ h
  have h0 : bs (encB k ps) = k :: UInt8.ofNat (ps.length / 256) :: UInt8.ofNat ps.length :: (ps.map fun s => s.data.toList).flatten := rfl
  rw [h0] at h1
  have hk39 : 3 ≤ k.toNat ∧ k.toNat ≤ 9 := by unfold isComp at hk; exact of_decide_eq_true hk
  cases v with
  | int l =>
    have e : k = 1 := (List.cons.inj h1).1
    subst e; exact absurd hk39.1 (by decide)
  | bool b =>
    have e : k = 2 := (List.cons.inj h1).1
    subst e; exact absurd hk39.1 (by decide)
  | name a b =>
    have e : k = 10 := (List.cons.inj h1).1
    subst e; exact absurd hk39.2 (by decide)
  | comp k' l =>
    have h3 : k :: UInt8.ofNat (ps.length / 256) :: UInt8.ofNat ps.length :: (ps.map fun s => s.data.toList).flatten = k' :: UInt8.ofNat (l.length / 256) :: UInt8.ofNat l.length :: (encs l ++ r) := h1
    injection h3 with e1 e2
    injection e2 with e2 e3
    injection e3 with e3 e4
    subst e1
    refine ⟨l, rfl, ?_⟩
    have hl : l.length < 65536 := by
      unfold wf at h2
      simp only [Bool.and_eq_true, decide_eq_true_eq] at h2
      exact h2.2.1
    rw [← u16_ofNat _ hl, ← e2, ← e3, u16_ofNat _ (by omega)]
theorem valB_dec {d : Nat} {s : ByteArray} {v : V} {r : List UInt8} (h : dec d (bs s) = some (v, r)) (hr : r ≠ []) : valB d s = false := by
  unfold valB
  rw [h]
  cases r with
  | nil => exact absurd rfl hr
  | cons b r => simp
set_option maxRecDepth 100000 in
set_option maxHeartbeats 3200000 in
theorem rcompound_any (k : UInt8) (hk : isComp k = true) (ps : List ByteArray) (A : Option Addr) (n c : Nat) (w : World) (hn : n = ps.length) (hn1 : n ≤ 4611686018427387904) (hs : ∀ s ∈ ps, valB 32 s = true) (hr : InC w A (ps.map Value.string)) :
    Calls Tryz.prog 47 #[.int .i64 (k.toNat : Int), .slice A n c] w fun e w' => e = .returned (.string (mkM k ps)) ∧ Below w.heap.size w w' := by
  have HN := Lib.hid hn
  have HS := Lib.hid hs
  have HR := hide hr
  have HTW := Lib.hid (tot_two hs)
  have hk39 : 3 ≤ k.toNat ∧ k.toNat ≤ 9 := by unfold isComp at hk; exact of_decide_eq_true hk
  have hkm : (k.toNat : Int) % 256 = (k.toNat : Int) := by omega
  have HK := Lib.hid hk
  clear hn hs hr hk
  by_cases hbig : 65535 < n
  · have HM : Hid (mkM k ps = ⟨#[]⟩) := Lib.hid (mkM_big (by have := HTW.out; have := HN.out; omega))
    go_enter Tryz.func47, Tryz.ntmps47
    go_wp2_with fail
    go_ret
    exact ⟨by rw [HM.out]; rfl, Below.refl _ _⟩
  have hn2 : n ≤ 65535 := by omega
  have HE := Lib.hid (fun w => rtwo_any n (by omega) w)
  have HB0 := hide (Below.refl w.heap.size w)
  have HF : Hid ((⟨([k] : List UInt8).toArray⟩ : ByteArray) ++ ⟨(twoL n).toArray⟩ = encP k ps 0) := Lib.hid (by
    rw [ba_app]
    unfold encP codeL hdrL twoL
    rw [← HN.out]; simp)
  have hs8 : (⟨(twoL n).toArray⟩ : ByteArray).size ≤ 2 := by show (twoL n).toArray.size ≤ 2; rw [List.size_toArray]; exact Nat.le_refl 2
  have hw8 : IntKind.u8.wrap (k.toNat : Int) = (k.toNat : Int) := by rw [IntKind.wrap_u8]; exact hkm
  generalize (⟨(twoL n).toArray⟩ : ByteArray) = s8 at *
  clear hbig
  go_enter Tryz.func47, Tryz.ntmps47
  go_wp2_with fail
  have HBd := hide (below_drew (unhide HB0))
  refine wp_region_noPanic ?_
  refine wp_region_held_drew (S := fun _ => True) (by kernel_rfl) trivial (fun _ => ?_)
  generalize w.drew = wd at *
  try simp only [Act.put, List.setIfInBounds_toArray, List.set_cons_zero, List.set_cons_succ]
  refine wpAnyH_take (i := 0) (oi := { dst := some 13, op := Op.move (Operand.tmp 0), type := 3, pos := "value.go:125", after := #[], guard := none }) (v := ?_) rfl (by kernel_rfl) (by kernel_rfl) (by kernel_rfl) (fun _ _ _ h => h) (Or.inl ⟨by rfl, ?_⟩) trivial ?_
  rotate_left 1
  · intro w hSw
    try dsimp only at hSw
    go_simp
    first
      | done
      | with_reducible rfl
      | rw [if_neg (by omega)]
  try simp only [Act.put, List.setIfInBounds_toArray, List.set_cons_zero, List.set_cons_succ]
  refine wpAnyH_take (i := 1) (oi := { dst := some 14, op := Op.convert 3 5 (Operand.tmp 13), type := 5, pos := "value.go:125", after := #[{ on := 0, ground := Ground.data }], guard := none }) (v := ?_) rfl (by kernel_rfl) (by kernel_rfl) (by kernel_rfl) (fun _ _ _ h => h) (Or.inl ⟨by rfl, ?_⟩) trivial ?_
  rotate_left 1
  · intro w hSw
    try dsimp only at hSw
    go_simp
    first
      | done
      | with_reducible rfl
      | rw [if_neg (by omega)]
  try simp only [Act.put, List.setIfInBounds_toArray, List.set_cons_zero, List.set_cons_succ]
  refine wpAnyH_take (i := 4) (oi := { dst := some 17, op := Op.move (Operand.tmp 1), type := 24, pos := "value.go:125", after := #[], guard := none }) (v := ?_) rfl (by kernel_rfl) (by kernel_rfl) (by kernel_rfl) (fun _ _ _ h => h) (Or.inl ⟨by rfl, ?_⟩) trivial ?_
  rotate_left 1
  · intro w hSw
    try dsimp only at hSw
    go_simp
    first
      | done
      | with_reducible rfl
      | rw [if_neg (by omega)]
  try simp only [Act.put, List.setIfInBounds_toArray, List.set_cons_zero, List.set_cons_succ]
  refine wpAnyH_take (i := 5) (oi := { dst := some 18, op := Op.call { callee := Callee.builtin Builtin.len, args := #[Operand.tmp 17], argTypes := #[24] }, type := 3, pos := "value.go:125", after := #[{ on := 4, ground := Ground.data }], guard := none }) (v := ?_) rfl (by kernel_rfl) (by kernel_rfl) (by kernel_rfl) (fun _ _ _ h => h) (Or.inl ⟨by rfl, ?_⟩) trivial ?_
  rotate_left 1
  · intro w hSw
    try dsimp only at hSw
    go_simp
    first
      | done
      | with_reducible rfl
      | rw [if_neg (by omega)]
  try simp only [Act.put, List.setIfInBounds_toArray, List.set_cons_zero, List.set_cons_succ]
  refine wpAnyH_ready (rs := [2, 6]) (by kernel_rfl) (by simp) ?_
  refine AllReadyH.cons (o := { dst := some 15, op := Op.buildSlice 81 1 #[(0, Operand.tmp 14)], type := 81, pos := "value.go:125", after := #[{ on := 1, ground := Ground.data }], guard := none }) rfl (fun K hK => ?_) (AllReadyH.cons (o := { dst := some 19, op := Op.call { callee := Callee.value (Operand.func 52), args := #[Operand.tmp 18], argTypes := #[3] }, type := 9, pos := "value.go:125", after := #[{ on := 5, ground := Ground.data }], guard := none }) rfl (fun K hK => ?_) (AllReadyH.nil))
  · go_simp
    try dsimp only
    have HK801 := hide (Blk.new wd 5 #[.int .u8 (k.toNat : Int)])
    have HB801 := hide ((unhide HBd).alloc (unhide HBd).size (.cells #[.int .u8 (k.toNat : Int)] 5))
    refine hK.out _ _ trivial (fun _ => ?_)
    clear hK K
    try simp only [Act.put, List.setIfInBounds_toArray, List.set_cons_zero, List.set_cons_succ]
    generalize wd.alloc (.cells #[.int .u8 (k.toNat : Int)] 5) = wl801 at *
    generalize wd.heap.size = bl801 at *
    refine wpAnyH_stronger (S' := fun W => Blk W bl801 5 #[.int .u8 (k.toNat : Int)]) (fun _ _ => trivial) ?_
    refine wpAnyH_take (i := 3) (oi := { dst := some 16, op := Op.convert 81 9 (Operand.tmp 15), type := 9, pos := "value.go:125", after := #[{ on := 2, ground := Ground.data }], guard := none }) (v := .string ⟨([k] : List UInt8).toArray⟩) rfl (by kernel_rfl) (by kernel_rfl) (by kernel_rfl) (fun _ _ _ h => h) (Or.inl ⟨by rfl, ?_⟩) (unhide HK801) ?_
    · intro w hSw
      have hcv := conv_blk_str (n := 1) (c := 1) hSw (l := [k]) rfl rfl
      go_simp
      try with_reducible rfl
    try simp only [Act.put, List.setIfInBounds_toArray, List.set_cons_zero, List.set_cons_succ]
    refine wpAnyH_ready (rs := [6]) (by kernel_rfl) (by simp) ?_
    refine AllReadyH.cons (o := { dst := some 19, op := Op.call { callee := Callee.value (Operand.func 52), args := #[Operand.tmp 18], argTypes := #[3] }, type := 9, pos := "value.go:125", after := #[{ on := 5, ground := Ground.data }], guard := none }) rfl (fun K hK => ?_) (AllReadyH.nil)
    go_simp
    go_at_call 52
    refine (HE.out _).mono ?_
    rintro e w802 ⟨rfl, hb802⟩
    have HB802 := hide ((unhide HB801).trans (hb802.mono (unhide HB801).size))
    have HK802 := hide (Blk.below (unhide HK801) hb802 (unhide HK801).lt)
    clear hb802
    try dsimp only
    refine hK.out _ _ (unhide HK802) (fun _ => ?_)
    clear hK K
    try simp only [Act.put, List.setIfInBounds_toArray, List.set_cons_zero, List.set_cons_succ]
    refine wpAnyH_take (i := 7) (oi := { dst := some 20, op := Op.binOp BinOp.add 9 (Operand.tmp 16) (Operand.tmp 19) 9, type := 9, pos := "value.go:125", after := #[{ on := 3, ground := Ground.data }, { on := 6, ground := Ground.data }], guard := none }) (v := ?_) rfl (by kernel_rfl) (by kernel_rfl) (by kernel_rfl) (fun _ _ _ h => h) (Or.inl ⟨by rfl, ?_⟩) (unhide HK802) ?_
    rotate_left 1
    · intro w hSw
      try dsimp only at hSw
      go_simp
      first
        | done
        | with_reducible rfl
        | rw [if_neg (by omega)]
    try simp only [Act.put, List.setIfInBounds_toArray, List.set_cons_zero, List.set_cons_succ]
    refine wpAnyH_take (i := 8) (oi := { dst := some 5, op := Op.assign (Operand.tmp 20), type := 9, pos := "value.go:125", after := #[{ on := 7, ground := Ground.data }, { on := 6, ground := Ground.chain }, { on := 0, ground := Ground.phase }, { on := 1, ground := Ground.phase }, { on := 2, ground := Ground.phase }, { on := 3, ground := Ground.phase }, { on := 4, ground := Ground.phase }, { on := 5, ground := Ground.phase }, { on := 6, ground := Ground.phase }, { on := 7, ground := Ground.phase }], guard := none }) (v := ?_) rfl (by kernel_rfl) (by kernel_rfl) (by kernel_rfl) (fun _ _ _ h => h) (Or.inl ⟨by rfl, ?_⟩) (unhide HK802) ?_
    rotate_left 1
    · intro w hSw
      try dsimp only at hSw
      go_simp
      first
        | done
        | with_reducible rfl
        | rw [if_neg (by omega)]
    try simp only [Act.put, List.setIfInBounds_toArray, List.set_cons_zero, List.set_cons_succ]
    refine wpAnyH_done (by kernel_rfl) ?_ _
    refine NoPanic.normal ?_
    have HBend := HB802
    go_wp2_with fail
    have HB1 := HBend
    clear HB0 HBd
    go_loopw [5, 6] (fun sv iv wr => ∃ (j : Nat) (sb : ByteArray), iv = .int .i64 j ∧ sv = .string sb ∧ j ≤ n ∧ sb.size ≤ 262144 ∧ Hid (sb = encP k ps j) ∧ Hid (Below w.heap.size w wr)) (fun _ iv _ => n - (intOf iv).toNat)
    case atStart => exact ⟨0, _, rfl, by rw [HF.out], by omega, by rw [encP_size]; simp [totB], rfl, unhide HB1⟩
    case round =>
      obtain ⟨j, sb, rfl, rfl, hj, hsz, hE, hB⟩ := hrel
      by_cases hjn : j < n
      · obtain ⟨u, hu⟩ : ∃ u, ps[j]? = some u := ⟨ps[j]'(by have := HN.out; omega), List.getElem?_eq_getElem _⟩
        have hv := HS.out u (List.mem_of_getElem? hu)
        have h2 := val_two hv
        have hv3 := (valB_iff.1 hv).1
        have hem : u.toList.isEmpty = false := isE_not (fun q => by have := bs_size u; rw [q] at this; simp at this; omega)
        have HST : Hid (sb ++ u = encP k ps (j + 1)) := Lib.hid (by rw [hE.out]; exact encP_step hu)
        obtain ⟨b5, o5, hA1, hb5, hc5⟩ := at1s ((unhide HR).below hB.out) (i := j) (u := .string u) (by rw [List.getElem?_map, hu]; rfl)
        subst hA1
        by_cases hbg : 131072 < sb.size
        · have HM : Hid (mkM k ps = ⟨#[]⟩) := Lib.hid (mkM_big (by have h3 := totB_le ps j; rw [hE.out, encP_size] at hbg; omega))
          clear hu hv hE
          go_wp2_with fail
          go_ret
          exact ⟨by rw [HM.out]; rfl, hB.out⟩
        · have hadd : (sb ++ u).size = sb.size + u.size := ByteArray.size_append
          clear hu hv hE
          go_wp2_with fail
          go_roundw
          case rel => exact ⟨j + 1, _, by go_num, rfl, by omega, by omega, HST.out, hB.out⟩
          case measure => simp [intOf]; omega
      · have hEB : sb = encB k ps := by rw [hE.out]; exact encP_all k ps (by have := HN.out; omega)
        have hs3 : 3 ≤ sb.size := by rw [hEB, encB_size]; omega
        have HC := Lib.hid (fun w => read_any 32 (by decide) sb w (by omega))
        have HCH := Lib.hid (fun w => checked_any sb (by omega) w)
        have HMM : Hid (mkM k ps = if valB 32 sb = true then sb else ⟨#[]⟩) := Lib.hid (by rw [hEB]; exact mkM_val HS.out)
        cases hd : dec 32 (bs sb) with
        | none =>
          have HM : Hid (mkM k ps = ⟨#[]⟩) := Lib.hid (by
            rw [HMM.out, if_neg]
            unfold valB; rw [hd]; simp)
          have hne : ((0 : Int) == (sb.size : Int)) = false := beq_eq_false_iff_ne.2 (by omega)
          rw [hd] at HC
          clear hd hE hEB
          go_wp2_with fail
          refine (HC.out _).mono ?_
          rintro e w3 hW
          obtain ⟨rfl, hb3⟩ := hW
          have HB3 := hide (hB.out.trans (hb3.mono hB.out.size))
          clear hb3
          go_wp2_with fail
          go_ret
          exact ⟨by rw [HM.out]; rfl, unhide HB3⟩
        | some q =>
          obtain ⟨v, r⟩ := q
          have hd' := hd
          rw [hEB] at hd'
          obtain ⟨l, hvl, hll⟩ := encB_read HK.out (by have := HN.out; omega) hd'
          rw [hd] at HC
          subst hvl
          have hr3 : r.length < sb.size := by
            have h1 := congrArg List.length (dec_ok 32 _ _ _ hd).1
            have h2 := enc_pos _ (dec_ok 32 _ _ _ hd).2
            rw [bs_size, List.length_append] at h1
            omega
          by_cases hr0 : r = []
          · subst hr0
            have HLL := Lib.hid hll
            clear hd hd' hE hr3 hEB hll
            go_wp2_with fail
            refine (HC.out _).mono ?_
            rintro e w3 hW
            obtain ⟨A4, c4, ps4, dd4, rfl, -, -, hp4, hb3⟩ := hW
            have hl4 : ps4.length = n := by
              have h1 : ps4.map bs = l.map enc := hp4
              have := congrArg List.length h1
              rw [List.length_map, List.length_map] at this
              rw [this, HLL.out, HN.out]
            rw [hl4]
            have HB3 := hide (hB.out.trans (hb3.mono hB.out.size))
            have hsub : sb.size - List.length ([] : List UInt8) = sb.size := rfl
            rw [hsub]
            clear hb3 hp4 hl4
            go_wp2_with fail
            refine (HCH.out _).mono ?_
            rintro e w5 ⟨rfl, hb5⟩
            have HB5 := hide ((unhide HB3).trans (hb5.mono (unhide HB3).size))
            clear hb5
            generalize (if valB 32 sb = true then sb else (⟨#[]⟩ : ByteArray)) = res at *
            go_wp2_with fail
            go_ret
            exact ⟨by rw [HMM.out]; rfl, unhide HB5⟩
          · have HM : Hid (mkM k ps = ⟨#[]⟩) := Lib.hid (by rw [HMM.out, if_neg]; rw [valB_dec hd hr0]; simp)
            have hrl : 0 < r.length := List.length_pos_iff.2 hr0
            obtain ⟨z, hz⟩ : ∃ z, z = sb.size - r.length := ⟨_, rfl⟩
            have hne : ((z : Int) == (sb.size : Int)) = false := beq_eq_false_iff_ne.2 (by omega)
            clear hd hd' hE hr3 hEB hll hr0
            go_wp2_with fail
            refine (HC.out _).mono ?_
            rintro e w3 hW
            obtain ⟨A4, c4, ps4, dd4, rfl, -, -, -, hb3⟩ := hW
            have HB3 := hide (hB.out.trans (hb3.mono hB.out.size))
            rw [← hz]
            clear hb3 hz hrl
            go_wp2_with fail
            go_ret
            exact ⟨by rw [HM.out]; rfl, unhide HB3⟩
  · go_simp
    go_at_call 52
    refine (HE.out _).mono ?_
    rintro e w803 ⟨rfl, hb803⟩
    have HB803 := hide ((unhide HBd).trans (hb803.mono (unhide HBd).size))
    clear hb803
    try dsimp only
    refine hK.out _ _ trivial (fun _ => ?_)
    clear hK K
    try simp only [Act.put, List.setIfInBounds_toArray, List.set_cons_zero, List.set_cons_succ]
    refine wpAnyH_ready (rs := [2]) (by kernel_rfl) (by simp) ?_
    refine AllReadyH.cons (o := { dst := some 15, op := Op.buildSlice 81 1 #[(0, Operand.tmp 14)], type := 81, pos := "value.go:125", after := #[{ on := 1, ground := Ground.data }], guard := none }) rfl (fun K hK => ?_) (AllReadyH.nil)
    go_simp
    try dsimp only
    have HK804 := hide (Blk.new w803 5 #[.int .u8 (k.toNat : Int)])
    have HB804 := hide ((unhide HB803).alloc (unhide HB803).size (.cells #[.int .u8 (k.toNat : Int)] 5))
    refine hK.out _ _ trivial (fun _ => ?_)
    clear hK K
    try simp only [Act.put, List.setIfInBounds_toArray, List.set_cons_zero, List.set_cons_succ]
    generalize w803.alloc (.cells #[.int .u8 (k.toNat : Int)] 5) = wl804 at *
    generalize w803.heap.size = bl804 at *
    refine wpAnyH_stronger (S' := fun W => Blk W bl804 5 #[.int .u8 (k.toNat : Int)]) (fun _ _ => trivial) ?_
    refine wpAnyH_take (i := 3) (oi := { dst := some 16, op := Op.convert 81 9 (Operand.tmp 15), type := 9, pos := "value.go:125", after := #[{ on := 2, ground := Ground.data }], guard := none }) (v := .string ⟨([k] : List UInt8).toArray⟩) rfl (by kernel_rfl) (by kernel_rfl) (by kernel_rfl) (fun _ _ _ h => h) (Or.inl ⟨by rfl, ?_⟩) (unhide HK804) ?_
    · intro w hSw
      have hcv := conv_blk_str (n := 1) (c := 1) hSw (l := [k]) rfl rfl
      go_simp
      try with_reducible rfl
    try simp only [Act.put, List.setIfInBounds_toArray, List.set_cons_zero, List.set_cons_succ]
    refine wpAnyH_take (i := 7) (oi := { dst := some 20, op := Op.binOp BinOp.add 9 (Operand.tmp 16) (Operand.tmp 19) 9, type := 9, pos := "value.go:125", after := #[{ on := 3, ground := Ground.data }, { on := 6, ground := Ground.data }], guard := none }) (v := ?_) rfl (by kernel_rfl) (by kernel_rfl) (by kernel_rfl) (fun _ _ _ h => h) (Or.inl ⟨by rfl, ?_⟩) (unhide HK804) ?_
    rotate_left 1
    · intro w hSw
      try dsimp only at hSw
      go_simp
      first
        | done
        | with_reducible rfl
        | rw [if_neg (by omega)]
    try simp only [Act.put, List.setIfInBounds_toArray, List.set_cons_zero, List.set_cons_succ]
    refine wpAnyH_take (i := 8) (oi := { dst := some 5, op := Op.assign (Operand.tmp 20), type := 9, pos := "value.go:125", after := #[{ on := 7, ground := Ground.data }, { on := 6, ground := Ground.chain }, { on := 0, ground := Ground.phase }, { on := 1, ground := Ground.phase }, { on := 2, ground := Ground.phase }, { on := 3, ground := Ground.phase }, { on := 4, ground := Ground.phase }, { on := 5, ground := Ground.phase }, { on := 6, ground := Ground.phase }, { on := 7, ground := Ground.phase }], guard := none }) (v := ?_) rfl (by kernel_rfl) (by kernel_rfl) (by kernel_rfl) (fun _ _ _ h => h) (Or.inl ⟨by rfl, ?_⟩) (unhide HK804) ?_
    rotate_left 1
    · intro w hSw
      try dsimp only at hSw
      go_simp
      first
        | done
        | with_reducible rfl
        | rw [if_neg (by omega)]
    try simp only [Act.put, List.setIfInBounds_toArray, List.set_cons_zero, List.set_cons_succ]
    refine wpAnyH_done (by kernel_rfl) ?_ _
    refine NoPanic.normal ?_
    have HBend := HB804
    go_wp2_with fail
    have HB1 := HBend
    clear HB0 HBd
    go_loopw [5, 6] (fun sv iv wr => ∃ (j : Nat) (sb : ByteArray), iv = .int .i64 j ∧ sv = .string sb ∧ j ≤ n ∧ sb.size ≤ 262144 ∧ Hid (sb = encP k ps j) ∧ Hid (Below w.heap.size w wr)) (fun _ iv _ => n - (intOf iv).toNat)
    case atStart => exact ⟨0, _, rfl, by rw [HF.out], by omega, by rw [encP_size]; simp [totB], rfl, unhide HB1⟩
    case round =>
      obtain ⟨j, sb, rfl, rfl, hj, hsz, hE, hB⟩ := hrel
      by_cases hjn : j < n
      · obtain ⟨u, hu⟩ : ∃ u, ps[j]? = some u := ⟨ps[j]'(by have := HN.out; omega), List.getElem?_eq_getElem _⟩
        have hv := HS.out u (List.mem_of_getElem? hu)
        have h2 := val_two hv
        have hv3 := (valB_iff.1 hv).1
        have hem : u.toList.isEmpty = false := isE_not (fun q => by have := bs_size u; rw [q] at this; simp at this; omega)
        have HST : Hid (sb ++ u = encP k ps (j + 1)) := Lib.hid (by rw [hE.out]; exact encP_step hu)
        obtain ⟨b5, o5, hA1, hb5, hc5⟩ := at1s ((unhide HR).below hB.out) (i := j) (u := .string u) (by rw [List.getElem?_map, hu]; rfl)
        subst hA1
        by_cases hbg : 131072 < sb.size
        · have HM : Hid (mkM k ps = ⟨#[]⟩) := Lib.hid (mkM_big (by have h3 := totB_le ps j; rw [hE.out, encP_size] at hbg; omega))
          clear hu hv hE
          go_wp2_with fail
          go_ret
          exact ⟨by rw [HM.out]; rfl, hB.out⟩
        · have hadd : (sb ++ u).size = sb.size + u.size := ByteArray.size_append
          clear hu hv hE
          go_wp2_with fail
          go_roundw
          case rel => exact ⟨j + 1, _, by go_num, rfl, by omega, by omega, HST.out, hB.out⟩
          case measure => simp [intOf]; omega
      · have hEB : sb = encB k ps := by rw [hE.out]; exact encP_all k ps (by have := HN.out; omega)
        have hs3 : 3 ≤ sb.size := by rw [hEB, encB_size]; omega
        have HC := Lib.hid (fun w => read_any 32 (by decide) sb w (by omega))
        have HCH := Lib.hid (fun w => checked_any sb (by omega) w)
        have HMM : Hid (mkM k ps = if valB 32 sb = true then sb else ⟨#[]⟩) := Lib.hid (by rw [hEB]; exact mkM_val HS.out)
        cases hd : dec 32 (bs sb) with
        | none =>
          have HM : Hid (mkM k ps = ⟨#[]⟩) := Lib.hid (by
            rw [HMM.out, if_neg]
            unfold valB; rw [hd]; simp)
          have hne : ((0 : Int) == (sb.size : Int)) = false := beq_eq_false_iff_ne.2 (by omega)
          rw [hd] at HC
          clear hd hE hEB
          go_wp2_with fail
          refine (HC.out _).mono ?_
          rintro e w3 hW
          obtain ⟨rfl, hb3⟩ := hW
          have HB3 := hide (hB.out.trans (hb3.mono hB.out.size))
          clear hb3
          go_wp2_with fail
          go_ret
          exact ⟨by rw [HM.out]; rfl, unhide HB3⟩
        | some q =>
          obtain ⟨v, r⟩ := q
          have hd' := hd
          rw [hEB] at hd'
          obtain ⟨l, hvl, hll⟩ := encB_read HK.out (by have := HN.out; omega) hd'
          rw [hd] at HC
          subst hvl
          have hr3 : r.length < sb.size := by
            have h1 := congrArg List.length (dec_ok 32 _ _ _ hd).1
            have h2 := enc_pos _ (dec_ok 32 _ _ _ hd).2
            rw [bs_size, List.length_append] at h1
            omega
          by_cases hr0 : r = []
          · subst hr0
            have HLL := Lib.hid hll
            clear hd hd' hE hr3 hEB hll
            go_wp2_with fail
            refine (HC.out _).mono ?_
            rintro e w3 hW
            obtain ⟨A4, c4, ps4, dd4, rfl, -, -, hp4, hb3⟩ := hW
            have hl4 : ps4.length = n := by
              have h1 : ps4.map bs = l.map enc := hp4
              have := congrArg List.length h1
              rw [List.length_map, List.length_map] at this
              rw [this, HLL.out, HN.out]
            rw [hl4]
            have HB3 := hide (hB.out.trans (hb3.mono hB.out.size))
            have hsub : sb.size - List.length ([] : List UInt8) = sb.size := rfl
            rw [hsub]
            clear hb3 hp4 hl4
            go_wp2_with fail
            refine (HCH.out _).mono ?_
            rintro e w5 ⟨rfl, hb5⟩
            have HB5 := hide ((unhide HB3).trans (hb5.mono (unhide HB3).size))
            clear hb5
            generalize (if valB 32 sb = true then sb else (⟨#[]⟩ : ByteArray)) = res at *
            go_wp2_with fail
            go_ret
            exact ⟨by rw [HMM.out]; rfl, unhide HB5⟩
          · have HM : Hid (mkM k ps = ⟨#[]⟩) := Lib.hid (by rw [HMM.out, if_neg]; rw [valB_dec hd hr0]; simp)
            have hrl : 0 < r.length := List.length_pos_iff.2 hr0
            obtain ⟨z, hz⟩ : ∃ z, z = sb.size - r.length := ⟨_, rfl⟩
            have hne : ((z : Int) == (sb.size : Int)) = false := beq_eq_false_iff_ne.2 (by omega)
            clear hd hd' hE hr3 hEB hll hr0
            go_wp2_with fail
            refine (HC.out _).mono ?_
            rintro e w3 hW
            obtain ⟨A4, c4, ps4, dd4, rfl, -, -, -, hb3⟩ := hW
            have HB3 := hide (hB.out.trans (hb3.mono hB.out.size))
            rw [← hz]
            clear hb3 hz hrl
            go_wp2_with fail
            go_ret
            exact ⟨by rw [HM.out]; rfl, unhide HB3⟩
set_option linter.unusedSimpArgs false in
set_option maxRecDepth 100000 in
set_option maxHeartbeats 3200000 in
theorem rmake_any (k : UInt8) (hk : isComp k = true) (ps : List ByteArray) (A : Option Addr) (n c : Nat) (w : World) (hn : n = ps.length) (hn1 : n ≤ 4611686018427387904) (hs : ∀ s ∈ ps, s.size ≤ 281474976710656) (hr : InC w A (ps.map Value.string)) :
    Calls Tryz.prog 22 #[.int .i64 (k.toNat : Int), .slice A n c] w fun e w' => e = .returned (.string (mkM k ps)) ∧ Below w.heap.size w w' := by
  have HA := Lib.hid (fun w hr => rall_any ps A n c w hn hn1 hs hr)
  have HR := hide hr
  cases hz : ps.all (valB 32) with
  | true =>
    have HC := Lib.hid (fun w hr => rcompound_any k hk ps A n c w hn (by omega) (List.all_eq_true.1 hz) hr)
    rw [hz] at HA
    generalize mkM k ps = m at *
    clear hn hs hr hz
    go_enter Tryz.func22, Tryz.ntmps22
    go_wp2_with fail
    refine (HA.out _ (unhide HR)).mono ?_
    rintro e w3 ⟨rfl, hb3⟩
    have HB3 := hide hb3
    have HR3 := hide ((unhide HR).below hb3)
    clear hb3
    go_wp2_with fail
    refine (HC.out _ (unhide HR3)).mono ?_
    rintro e w4 ⟨rfl, hb4⟩
    have HB4 := hide ((unhide HB3).trans (hb4.mono (unhide HB3).size))
    clear hb4
    go_wp2_with fail
    go_ret
    exact ⟨rfl, unhide HB4⟩
  | false =>
    have HM : Hid (mkM k ps = ⟨#[]⟩) := Lib.hid (by unfold mkM; rw [if_neg (by rw [hz]; simp)])
    rw [hz] at HA
    clear hn hs hr hz
    go_enter Tryz.func22, Tryz.ntmps22
    go_wp2_with fail
    refine (HA.out _ (unhide HR)).mono ?_
    rintro e w3 ⟨rfl, hb3⟩
    have HB3 := hide hb3
    clear hb3
    go_wp2_with fail
    go_ret
    exact ⟨by rw [HM.out]; rfl, unhide HB3⟩

end Go.Proofs.YtdifpemohdnolaaGreat
