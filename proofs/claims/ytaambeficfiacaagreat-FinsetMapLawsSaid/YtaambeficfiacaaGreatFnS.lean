/- The reference's has, Union, filter, Inter, Diff and Member. Conditions: strings of at most 2^48 bytes. -/
-- by tools/gen_fns.py
import Derived.Test.YtaambeficfiacaaGreatFnO
namespace Go.Proofs.YtaambeficfiacaaGreat
open Go.RowKit Go.Shelf VM

set_option linter.unusedSimpArgs false in
set_option maxRecDepth 100000 in
set_option maxHeartbeats 3200000 in
theorem rhas_any (ps : List ByteArray) (x : ByteArray) (A : Option Addr) (n c : Nat) (w : World) (hn : n = ps.length) (hn1 : n ≤ 1048576) (hr : InC w A (ps.map Value.string)) :
    Calls Tryz.prog 92 #[.slice A n c, .string x] w fun e w' => e = .returned (.bool (hasB x ps)) ∧ w' = w := by
  have HR := hide hr
  have HN := Lib.hid hn
  clear hr hn
  go_enter Tryz.func92, Tryz.ntmps92
  go_wp2_with fail
  go_loopw [5] (fun iv wr => ∃ j : Nat, iv = .int .i64 j ∧ j ≤ n ∧ Hid (hasB x ps = hasB x (ps.drop j)) ∧ Hid (wr = w)) (fun iv _ => n - (intOf iv).toNat)
  case atStart => exact ⟨0, rfl, by omega, rfl, rfl⟩
  case round =>
    obtain ⟨j, rfl, hj, hA, hw⟩ := hrel
    by_cases hil : j < n
    · obtain ⟨u, hu⟩ : ∃ u, ps[j]? = some u := ⟨ps[j]'(by have := HN.out; omega), List.getElem?_eq_getElem _⟩
      obtain ⟨b5, o5, hA1, hb5, hc5⟩ := at1s (unhide HR) (i := j) (u := .string u) (by rw [List.getElem?_map, hu]; rfl)
      subst hA1
      rw [← hw.out] at hc5
      have HST : Hid (hasB x ps = (decide (u = x) || hasB x (ps.drop (j + 1)))) := Lib.hid (by
        have hi : j < ps.length := (List.getElem?_eq_some_iff.1 hu).1
        rw [hA.out, List.drop_eq_getElem_cons hi]
        rw [List.getElem?_eq_getElem hi] at hu
        rw [Option.some.inj hu]; rfl)
      have g := toList_bool u x
      clear hu hA
      by_cases e : u = x
      · have HE : Hid (hasB x ps = true) := Lib.hid (by rw [HST.out, decide_eq_true e, Bool.true_or])
        rw [decide_eq_true e.symm] at g
        clear e HST
        go_wp2_with fail
        go_ret
        exact ⟨by rw [HE.out]; rfl, hw.out⟩
      · have HE : Hid (hasB x ps = hasB x (ps.drop (j + 1))) := Lib.hid (by rw [HST.out, decide_eq_false e, Bool.false_or])
        rw [decide_eq_false (fun q => e q.symm)] at g
        clear e HST
        go_wp2_with fail
        go_roundw
        case rel => exact ⟨j + 1, by go_num, by omega, HE.out, hw.out⟩
        case measure => simp [intOf]; omega
    · have HE : Hid (hasB x ps = false) := Lib.hid (by
        rw [hA.out, List.drop_eq_nil_of_le (by have := HN.out; omega)]; rfl)
      go_wp2_with fail
      go_ret
      exact ⟨by rw [HE.out]; rfl, hw.out⟩
theorem or_bnd (a b : List ByteArray) : bnd (mrg (fun p q => p || q) a b) = bnd (a ++ b) := bnd_congr (sortM_congr fun u => by
  rw [mrg_mem, List.mem_append, Bool.or_eq_true, hasB_iff, hasB_iff]
  exact ⟨fun q => q.1, fun q => ⟨q, q⟩⟩)
def filtL (want : Bool) (a b : List ByteArray) : List ByteArray := a.filter fun v => hasB v b == want
theorem filt_step {want : Bool} {a b : List ByteArray} {k : Nat} {v : ByteArray} (h : a[k]? = some v) : filtL want (a.take (k + 1)) b = filtL want (a.take k) b ++ (if (hasB v b == want) = true then [v] else []) := by
  unfold filtL
  rw [List.take_add_one, h, List.filter_append]
  congr 1
  show [v].filter _ = _
  by_cases q : (hasB v b == want) = true
  · rw [List.filter_cons_of_pos (by exact q), if_pos q]; rfl
  · rw [List.filter_cons_of_neg (by exact q), if_neg q]; rfl
theorem diff_filter {a b : List ByteArray} (ha : Asc a) : mrg (fun p q => p && !q) a b = a.filter fun v => !hasB v b :=
  asc_unique (mrg_asc _ _ _) (filter_asc _ ha) fun u => by
    rw [mrg_mem, List.mem_filter, Bool.and_eq_true, hasB_iff]
    exact ⟨fun q => q.2, fun q => ⟨.inl q.1, q⟩⟩
theorem sets_lit (x y : ByteArray) (hx : x.size ≤ 281474976710656) (hy : y.size ≤ 281474976710656) (w : World) :
    Calls Tryz.prog 77 #[.slice (some ⟨w.heap.size, 0, none⟩) 2 2] (w.alloc (.cells #[.string x, .string y] 22)) fun e w' => e = .returned (.bool (isK 5 x && isK 5 y)) ∧ Below (w.heap.size + 1) (w.alloc (.cells #[.string x, .string y] 22)) w' := by
  have h := rsets_any [x, y] (some ⟨w.heap.size, 0, none⟩) 2 2 (w.alloc (.cells #[.string x, .string y] 22)) rfl (by omega) (fun s hs => by
    rcases List.mem_cons.1 hs with rfl | hs
    · exact hx
    · rw [List.mem_singleton.1 hs]; exact hy) (new_in w 22 #[.string x, .string y])
  have e : [x, y].all (isK 5) = (isK 5 x && isK 5 y) := by simp
  rw [e, World.size_alloc] at h
  exact h
theorem sets_one (x : ByteArray) (hx : x.size ≤ 281474976710656) (w : World) :
    Calls Tryz.prog 77 #[.slice (some ⟨w.heap.size, 0, none⟩) 1 1] (w.alloc (.cells #[.string x] 22)) fun e w' => e = .returned (.bool (isK 5 x)) ∧ Below (w.heap.size + 1) (w.alloc (.cells #[.string x] 22)) w' := by
  have h := rsets_any [x] (some ⟨w.heap.size, 0, none⟩) 1 1 (w.alloc (.cells #[.string x] 22)) rfl (by omega) (fun s hs => by
    rw [List.mem_singleton.1 hs]; exact hx) (new_in w 22 #[.string x])
  have e : [x].all (isK 5) = isK 5 x := by simp
  rw [e, World.size_alloc] at h
  exact h
set_option linter.unusedSimpArgs false in
set_option maxRecDepth 100000 in
set_option maxHeartbeats 6400000 in
theorem rUnion_any (x y : ByteArray) (hx : x.size ≤ 281474976710656) (hy : y.size ≤ 281474976710656) (w : World) :
    Calls Tryz.prog 40 #[.string x, .string y] w (RetV w (combM (fun p q => p || q) x y)) := by
  have HSL := hide (sets_lit x y hx hy w)
  have HB0 : Hid (Below w.heap.size w (w.alloc (.cells #[.string x, .string y] 22))) := hide ((Below.refl _ _).alloc (Nat.le_refl _) _)
  cases h5 : (isK 5 x && isK 5 y) with
  | false =>
    have HR : Hid (combM (fun p q => p || q) x y = (⟨#[]⟩, 6)) := Lib.hid (by unfold combM; rw [if_neg]; rintro ⟨q1, q2⟩; rw [q1, q2] at h5; cases h5)
    rw [h5] at HSL
    clear h5
    go_enter Tryz.func40, Tryz.ntmps40
    go_wp2_with fail
    refine (unhide HSL).mono ?_
    rintro e w1 ⟨rfl, hb1⟩
    have HB1 := hide ((unhide HB0).trans (hb1.mono (by omega)))
    clear hb1
    go_wp2_with fail
    go_ret2
    exact ⟨by rw [HR.out]; rfl, unhide HB1⟩
  | true =>
    rw [Bool.and_eq_true] at h5
    have HR : Hid (combM (fun p q => p || q) x y = bnd (pt x ++ pt y)) := Lib.hid (by unfold combM; rw [if_pos h5, or_bnd])
    rw [h5.1, h5.2] at HSL
    have HPX := Lib.hid (fun w => rpartsO_any x hx w)
    have HPY := Lib.hid (fun w => rpartsO_any y hy w)
    have hlx := pt_len x
    have hly := pt_len y
    have HBN := Lib.hid (fun A n c w hn hr => rbounded_any (pt x ++ pt y) A n c w hn (by rw [hn, List.length_append]; omega) (fun s hs => (List.mem_append.1 hs).elim (pt_size48 x s) (pt_size48 y s)) hr)
    have HLX := Lib.hid hlx
    have HLY := Lib.hid hly
    generalize combM (fun p q => p || q) x y = r at *
    generalize bnd (pt x ++ pt y) = rr at *
    generalize pt x = px at *
    generalize pt y = py at *
    obtain ⟨i0, hi0, hiz0, hiz1, hiz2⟩ := info_parts val_info
    clear h5 hlx hly
    change Hid (Calls _ _ _ _ fun e w' => e = .returned (.bool true) ∧ _) at HSL
    go_enter Tryz.func40, Tryz.ntmps40
    go_wp2_with fail
    refine (unhide HSL).mono ?_
    rintro e w1 ⟨rfl, hb1⟩
    have HB1 := hide ((unhide HB0).trans (hb1.mono (by omega)))
    clear hb1
    go_wp2_with fail
    refine (HPX.out _).mono ?_
    rintro e w3 ⟨S3, c3, n3, rfl, hn3, hO3, hb3⟩
    have HB3 := hide ((unhide HB1).trans (hb3.mono (unhide HB1).size))
    have HN3 := Lib.hid hn3
    have hx6 : n3 ≤ 65536 := by rw [hn3]; exact HLX.out
    have HO3 := hide (owns_base hO3 (unhide HB1).size)
    clear hb3 hn3 hO3
    go_wp2_with fail
    refine (HPY.out _).mono ?_
    rintro e w4 ⟨S4, c4, n4, rfl, hn4, hO4, hb4⟩
    have HB4 := hide ((unhide HB3).trans (hb4.mono (unhide HB3).size))
    have HN4 := Lib.hid hn4
    have hy6 : n4 ≤ 65536 := by rw [hn4]; exact HLY.out
    have HO4 := hide (owns_below (unhide HO3) hb4)
    have HI4 := hide (InC.own hO4)
    have HL4 : Hid ((py.map Value.string).length = n4 * 1) := Lib.hid (by rw [List.length_map]; omega)
    clear hb4 hn4 hO4
    go_wp2_with (at_builtin; refine wpList_app _ rfl _ _ 33 rfl w.heap.size 22 i0 _ 1 16 Tryz.underlying33 hi0 hiz0 hiz1 hiz2 rfl (by decide) _ n3 (px.map Value.string) rfl (unhide HO4) S4 n4 c4 (py.map Value.string) rfl HL4.out (unhide HI4) (str_one py) (by unfold maxLen; omega) (by omega) (unhide HB4).size ?_; intro v6 w6 hown6 hgrow6 _)
    have HB6 := hide (below_app (unhide HB4) (unhide HO4) hgrow6)
    obtain ⟨A6, c6, rfl⟩ := owns_form hown6
    have HI6 : Hid (InC w6 A6 ((px ++ py).map Value.string)) := hide (by rw [List.map_append]; exact InC.own hown6)
    have HN6 : Hid (n3 + n4 = (px ++ py).length) := Lib.hid (by rw [List.length_append, HN3.out, HN4.out])
    clear hown6 hgrow6
    go_wp2_with fail
    refine (HBN.out _ _ _ _ HN6.out (unhide HI6)).mono ?_
    rintro e w7 ⟨rfl, hb7⟩
    have HB7 := hide ((unhide HB6).trans (hb7.mono (unhide HB6).size))
    clear hb7
    go_wp2_with fail
    go_ret2
    exact ⟨by rw [HR.out]; rfl, unhide HB7⟩
def filtM (want : Bool) (x y : ByteArray) : ByteArray × Int := if isK 5 x = true ∧ isK 5 y = true then bnd (filtL want (pt x) (pt y)) else (⟨#[]⟩, 6)
theorem filt_true (x y : ByteArray) : filtM true x y = combM (fun p q => p && q) x y := by
  unfold filtM combM
  split
  · rename_i h
    rw [and_filter (pt_set h.1).1]
    congr 1
    unfold filtL
    congr 1
    funext v
    cases hasB v (pt y) <;> rfl
  · rfl
theorem filt_false (x y : ByteArray) : filtM false x y = combM (fun p q => p && !q) x y := by
  unfold filtM combM
  split
  · rename_i h
    rw [diff_filter (pt_set h.1).1]
    congr 1
    unfold filtL
    congr 1
    funext v
    cases hasB v (pt y) <;> rfl
  · rfl
set_option linter.unusedSimpArgs false in
set_option maxRecDepth 100000 in
set_option maxHeartbeats 6400000 in
theorem rfilter_any (want : Bool) (x y : ByteArray) (hx : x.size ≤ 281474976710656) (hy : y.size ≤ 281474976710656) (w : World) :
    Calls Tryz.prog 91 #[.string x, .string y, .bool want] w (RetV w (filtM want x y)) := by
  have HSL := hide (sets_lit x y hx hy w)
  have HB0 : Hid (Below w.heap.size w (w.alloc (.cells #[.string x, .string y] 22))) := hide ((Below.refl _ _).alloc (Nat.le_refl _) _)
  cases h5 : (isK 5 x && isK 5 y) with
  | false =>
    have HR : Hid (filtM want x y = (⟨#[]⟩, 6)) := Lib.hid (by unfold filtM; rw [if_neg]; rintro ⟨q1, q2⟩; rw [q1, q2] at h5; cases h5)
    rw [h5] at HSL
    clear h5
    go_enter Tryz.func91, Tryz.ntmps91
    go_wp2_with fail
    refine (unhide HSL).mono ?_
    rintro e w1 ⟨rfl, hb1⟩
    have HB1 := hide ((unhide HB0).trans (hb1.mono (by omega)))
    clear hb1
    go_wp2_with fail
    go_ret2
    exact ⟨by rw [HR.out]; rfl, unhide HB1⟩
  | true =>
    rw [Bool.and_eq_true] at h5
    have HR : Hid (filtM want x y = bnd (filtL want (pt x) (pt y))) := Lib.hid (by unfold filtM; rw [if_pos h5])
    rw [h5.1, h5.2] at HSL
    have HPX := Lib.hid (fun w => rpartsO_any x hx w)
    have HPY := Lib.hid (fun w => rpartsO_any y hy w)
    have hfl := List.length_filter_le (fun v => hasB v (pt y) == want) (pt x)
    have HBN := Lib.hid (fun A n c w hn hr => rbounded_any (filtL want (pt x) (pt y)) A n c w hn (by rw [hn]; have := pt_len x; unfold filtL; omega) (fun s hs => pt_size48 x s (List.mem_filter.1 hs).1) hr)
    have HLX := Lib.hid (pt_len x)
    have HLY := Lib.hid (pt_len y)
    have HHAS := Lib.hid (fun v A n c w (hn : n = (pt y).length) hr => rhas_any (pt y) v A n c w hn (by rw [hn]; have := pt_len y; omega) hr)
    have HST := Lib.hid (fun k v (h : (pt x)[k]? = some v) => filt_step (want := want) (b := pt y) h)
    generalize filtM want x y = r at *
    generalize bnd (filtL want (pt x) (pt y)) = rr at *
    generalize pt x = px at *
    generalize pt y = py at *
    obtain ⟨i0, hi0, hiz0, hiz1, hiz2⟩ := info_parts val_info
    clear h5 hfl
    change Hid (Calls _ _ _ _ fun e w' => e = .returned (.bool true) ∧ _) at HSL
    go_enter Tryz.func91, Tryz.ntmps91
    go_wp2_with fail
    refine (unhide HSL).mono ?_
    rintro e w1 ⟨rfl, hb1⟩
    have HB1 := hide ((unhide HB0).trans (hb1.mono (by omega)))
    clear hb1
    go_wp2_with fail
    refine (HPX.out _).mono ?_
    rintro e w3 ⟨S3, c3, n3, rfl, hn3, hO3, hb3⟩
    have HB3 := hide ((unhide HB1).trans (hb3.mono (unhide HB1).size))
    have HN3 := Lib.hid hn3
    have hx6 : n3 ≤ 65536 := by rw [hn3]; exact HLX.out
    have HI3 := hide (InC.own hO3)
    clear hb3 hn3 hO3
    go_wp2_with fail
    refine (HPY.out _).mono ?_
    rintro e w4 ⟨S4, c4, n4, rfl, hn4, hO4, hb4⟩
    have HB4 := hide ((unhide HB3).trans (hb4.mono (unhide HB3).size))
    have HN4 := Lib.hid hn4
    have HI34 := hide ((unhide HI3).below hb4)
    have HI4 := hide (InC.own hO4)
    clear hb4 hn4 hO4
    go_wp2_with fail
    go_loopw [10, 11] (fun kv iv wr => ∃ (k q : Nat) (ls : List ByteArray), iv = .int .i64 k ∧ k ≤ n3 ∧ q ≤ k ∧ Hid (q = ls.length) ∧ Hid (ls = filtL want (px.take k) py) ∧ Hid (wr.ownsRow w4.heap.size 22 1 kv q (ls.map Value.string)) ∧ Hid (Below w4.heap.size w4 wr)) (fun _ iv _ => n3 - (intOf iv).toNat)
    case atStart => exact ⟨0, 0, [], rfl, by omega, by omega, rfl, by rw [List.take_zero]; rfl, World.ownsRow_nil _ _ _ _, Below.refl _ _⟩
    case round =>
      obtain ⟨k, q, ls, rfl, hk, hq, hql, hls, hO, hB⟩ := hrel
      obtain ⟨A4, k4, rfl⟩ := owns_form hO.out
      by_cases hkL : k < n3
      · obtain ⟨v, hv⟩ : ∃ v, px[k]? = some v := ⟨px[k]'(by have := HN3.out; omega), List.getElem?_eq_getElem _⟩
        obtain ⟨b5, o5, hS3, hb5, hc5⟩ := at1s ((unhide HI34).below hB.out) (i := k) (u := .string v) (by rw [List.getElem?_map, hv]; rfl)
        subst hS3
        have HC := hide (HHAS.out v S4 n4 c4 wr HN4.out ((unhide HI4).below hB.out))
        have HF := Lib.hid (HST.out k v hv)
        clear hv
        cases hz : (hasB v py == want) with
        | true =>
          have hz2 : hasB v py = want := by simpa using hz
          have HLS : Hid (ls ++ [v] = filtL want (px.take (k + 1)) py) := Lib.hid (by rw [HF.out, hz, ← hls.out]; rfl)
          have HQL : Hid (q + 1 = (ls ++ [v]).length) := Lib.hid (by rw [List.length_append, ← hql.out]; rfl)
          rw [hz2] at HC
          have HO4 := hide (hO.out.alloc (.cells #[.string v] 22))
          have HB4' := hide (hB.out.alloc hB.out.size (.cells #[.string v] 22))
          have hz4 := (unhide HB4').size
          have gw : (want == want) = true := by cases want <;> rfl
          clear hz hz2 hls HF
          go_wp2_with fail
          refine (unhide HC).mono ?_
          rintro e w5 ⟨rfl, hw5⟩; subst w5
          go_wp2_with (at_builtin; refine wpList_app _ rfl _ _ 33 rfl w4.heap.size 22 i0 _ 1 16 Tryz.underlying33 hi0 hiz0 hiz1 hiz2 rfl (by decide) _ q (ls.map Value.string) rfl (unhide HO4) (some ⟨wr.heap.size, 0, none⟩) 1 1 [.string v] rfl rfl (new_in wr 22 #[.string v]) (one_str v) (by unfold maxLen; omega) (by omega) hz4 ?_; intro v6 w6 hown6 hgrow6 _)
          have HB6 := hide (below_app (unhide HB4') (unhide HO4) hgrow6)
          have HO6 : Hid (w6.ownsRow w4.heap.size 22 1 v6 (q + 1) ((ls ++ [v]).map Value.string)) := hide (by rw [List.map_append]; exact hown6)
          clear hown6 hgrow6
          go_wp2_with fail
          go_roundw
          case rel => exact ⟨k + 1, q + 1, ls ++ [v], by go_num, by omega, by omega, HQL.out, HLS.out, unhide HO6, unhide HB6⟩
          case measure => simp [intOf]; omega
        | false =>
          have HLS : Hid (ls = filtL want (px.take (k + 1)) py) := Lib.hid (by rw [HF.out, hz, ← hls.out]; simp)
          generalize hasB v py = hh at *
          clear hls HF
          go_wp2_with fail
          refine (unhide HC).mono ?_
          rintro e w5 ⟨rfl, hw5⟩; subst w5
          go_wp2_with fail
          go_roundw
          case rel => exact ⟨k + 1, q, ls, by go_num, by omega, by omega, hql.out, HLS.out, hO.out, hB.out⟩
          case measure => simp [intOf]; omega
      · have HLE : Hid (ls = filtL want px py) := Lib.hid (by rw [hls.out, List.take_of_length_le (by have := HN3.out; omega)])
        have HB5 := hide ((unhide HB4).trans (hB.out.mono (unhide HB4).size))
        have HI5 := hide (InC.own hO.out)
        have HQ2 : Hid (q = (filtL want px py).length) := Lib.hid (by rw [← HLE.out]; exact hql.out)
        rw [HLE.out] at HI5
        clear hO hB hls hql HLE
        go_wp2_with fail
        refine (HBN.out _ _ _ _ HQ2.out (unhide HI5)).mono ?_
        rintro e w7 ⟨rfl, hb7⟩
        have HB7 := hide ((unhide HB5).trans (hb7.mono (unhide HB5).size))
        clear hb7
        go_wp2_with fail
        go_ret2
        exact ⟨by rw [HR.out]; rfl, unhide HB7⟩
set_option linter.unusedSimpArgs false in
set_option maxRecDepth 100000 in
set_option maxHeartbeats 3200000 in
theorem rInter_any (x y : ByteArray) (hx : x.size ≤ 281474976710656) (hy : y.size ≤ 281474976710656) (w : World) :
    Calls Tryz.prog 41 #[.string x, .string y] w (RetV w (combM (fun p q => p && q) x y)) := by
  have H := Lib.hid (fun w => rfilter_any true x y hx hy w)
  rw [filt_true] at H
  unfold RetV at H
  generalize combM (fun p q => p && q) x y = r at *
  go_enter Tryz.func41, Tryz.ntmps41
  go_wp2_with fail
  refine (H.out _).mono ?_
  rintro e w1 ⟨rfl, hb1⟩
  have HB1 := hide hb1
  clear hb1
  go_wp2_with fail
  go_ret2
  exact ⟨rfl, unhide HB1⟩
set_option linter.unusedSimpArgs false in
set_option maxRecDepth 100000 in
set_option maxHeartbeats 3200000 in
theorem rDiff_any (x y : ByteArray) (hx : x.size ≤ 281474976710656) (hy : y.size ≤ 281474976710656) (w : World) :
    Calls Tryz.prog 42 #[.string x, .string y] w (RetV w (combM (fun p q => p && !q) x y)) := by
  have H := Lib.hid (fun w => rfilter_any false x y hx hy w)
  rw [filt_false] at H
  unfold RetV at H
  generalize combM (fun p q => p && !q) x y = r at *
  go_enter Tryz.func42, Tryz.ntmps42
  go_wp2_with fail
  refine (H.out _).mono ?_
  rintro e w1 ⟨rfl, hb1⟩
  have HB1 := hide hb1
  clear hb1
  go_wp2_with fail
  go_ret2
  exact ⟨rfl, unhide HB1⟩

end Go.Proofs.YtaambeficfiacaaGreat
