/- The reference's BigInter. Conditions: strings of at most 2^48 bytes. -/
import Derived.Test.YtaambeficfiacaaGreatFnT
import Derived.Deep.RegionHeld3
namespace Go.Proofs.YtaambeficfiacaaGreat
open Go.RowKit Go.Shelf VM

def aI (ps : List ByteArray) (v : ByteArray) (k : Nat) : Bool := ((ps.take k).drop 1).all fun t => hasB v (pt t)
theorem aI_one (ps : List ByteArray) (v : ByteArray) : aI ps v 1 = true := by
  unfold aI; cases ps <;> rfl
theorem aI_step {ps : List ByteArray} {v t : ByteArray} {k : Nat} (hk : 1 ≤ k) (h : ps[k]? = some t) : aI ps v (k + 1) = (aI ps v k && hasB v (pt t)) := by
  unfold aI
  have hl : k < ps.length := (List.getElem?_eq_some_iff.1 h).1
  rw [List.take_add_one, h, List.drop_append_of_le_length (by rw [List.length_take]; omega), List.all_append]
  simp
theorem aI_all (s : ByteArray) (l : List ByteArray) (v : ByteArray) {k : Nat} (hk : k = (s :: l).length) : aI (s :: l) v k = l.all fun t => hasB v (pt t) := by
  unfold aI; rw [hk, List.take_length]; rfl
theorem foldI_filter : ∀ (l : List ByteArray) {c : List ByteArray}, Asc c → foldI c l = c.filter fun v => l.all fun t => hasB v (pt t)
  | [], c, _ => by
    show c = _
    rw [List.filter_eq_self.2]; intro a _; rfl
  | t :: l, c, h => by
    show foldI (mrg (fun p q => p && q) c (pt t)) l = _
    rw [foldI_filter l (mrg_asc _ _ _), and_filter h, List.filter_filter]
    congr 1
    funext v
    rw [List.all_cons]
    cases hasB v (pt t) <;> simp
def filtI (ps a : List ByteArray) (n k : Nat) : List ByteArray := (a.take k).filter fun v => aI ps v n
theorem filtI_step {ps a : List ByteArray} {n k : Nat} {v : ByteArray} (h : a[k]? = some v) : filtI ps a n (k + 1) = filtI ps a n k ++ (if aI ps v n = true then [v] else []) := by
  unfold filtI
  rw [List.take_add_one, h, List.filter_append]
  congr 1
  show [v].filter _ = _
  by_cases q : aI ps v n = true
  · rw [List.filter_cons_of_pos (by exact q), if_pos q]; rfl
  · rw [List.filter_cons_of_neg (by exact q), if_neg q]; rfl
theorem filtI_all (s : ByteArray) (l : List ByteArray) {n k : Nat} (hs : Asc (pt s)) (hn : n = (s :: l).length) (hk : k = (pt s).length) : filtI (s :: l) (pt s) n k = foldI (pt s) l := by
  unfold filtI
  rw [foldI_filter l hs, hk, List.take_length]
  congr 1
  funext v
  exact aI_all s l v hn

set_option linter.unusedSimpArgs false in
set_option maxRecDepth 100000 in
set_option maxHeartbeats 6400000 in
theorem rBigInter_any (x : ByteArray) (hx : x.size ≤ 281474976710656) (w : World) :
    Calls Tryz.prog 54 #[.string x] w (RetV w (bigI x)) := by
  have HX := hide (sets_one x hx w)
  have HB0 : Hid (Below w.heap.size w (w.alloc (.cells #[.string x] 22))) := hide ((Below.refl _ _).alloc (Nat.le_refl _) _)
  have HPX := Lib.hid (fun w => rpartsO_any x hx w)
  cases h5 : isK 5 x with
  | false =>
    have HR : Hid (bigI x = (⟨#[]⟩, 6)) := Lib.hid (by unfold bigI okS; rw [h5]; rfl)
    rw [h5] at HX
    clear h5
    go_enter Tryz.func54, Tryz.ntmps54
    go_wp2_with fail
    refine (unhide HX).mono ?_
    rintro e w1 ⟨rfl, hb1⟩
    have HB1 := hide ((unhide HB0).trans (hb1.mono (by omega)))
    clear hb1
    go_wp2_with fail
    go_ret2
    exact ⟨by rw [HR.out]; rfl, unhide HB1⟩
  | true =>
    have HSA := Lib.hid (fun A n c w hn hr => rsets_any (pt x) A n c w hn (by rw [hn]; have := pt_len x; omega) (pt_size48 x) hr)
    rw [h5] at HX
    cases h6 : (pt x).all (isK 5) with
    | false =>
      have HR : Hid (bigI x = (⟨#[]⟩, 6)) := Lib.hid (by unfold bigI okS; rw [h5, h6]; rfl)
      rw [h6] at HSA
      clear h5 h6
      generalize pt x = px at *
      go_enter Tryz.func54, Tryz.ntmps54
      go_wp2_with fail
      refine (unhide HX).mono ?_
      rintro e w1 ⟨rfl, hb1⟩
      have HB1 := hide ((unhide HB0).trans (hb1.mono (by omega)))
      clear hb1
      go_wp2_with fail
      refine (HPX.out _).mono ?_
      rintro e w3 ⟨S3, c3, n3, rfl, hn3, hO3, hb3⟩
      have HB3 := hide ((unhide HB1).trans (hb3.mono (unhide HB1).size))
      have HN3 := Lib.hid hn3
      have HI3 := hide (InC.own hO3)
      clear hb3 hn3 hO3
      go_wp2_with fail
      refine (HSA.out _ _ _ _ HN3.out (unhide HI3)).mono ?_
      rintro e w4 ⟨rfl, hb4⟩
      have HB4 := hide ((unhide HB3).trans (hb4.mono (unhide HB3).size))
      clear hb4
      go_wp2_with fail
      go_ret2
      exact ⟨by rw [HR.out]; rfl, unhide HB4⟩
    | true =>
      have hok : okS x = true := by unfold okS; rw [h5, h6]; rfl
      rw [h6] at HSA
      have HPU := Lib.hid (fun u (hu : u ∈ pt x) w => rpartsO_any u (pt_size48 x u hu) w)
      have hsets : ∀ u ∈ pt x, isK 5 u = true := fun u hu => List.all_eq_true.1 h6 u hu
      have HLP := Lib.hid (pt_len x)
      cases hps : pt x with
      | nil =>
        have HR : Hid (bigI x = (⟨#[]⟩, 12)) := Lib.hid (by unfold bigI; rw [if_pos hok, hps])
        rw [hps] at HPX HSA
        clear h5 h6 hok hsets HPU HLP hps
        go_enter Tryz.func54, Tryz.ntmps54
        go_wp2_with fail
        refine (unhide HX).mono ?_
        rintro e w1 ⟨rfl, hb1⟩
        have HB1 := hide ((unhide HB0).trans (hb1.mono (by omega)))
        clear hb1
        go_wp2_with fail
        refine (HPX.out _).mono ?_
        rintro e w2 ⟨S2, c2, n2, rfl, hn2, hO2, hb2⟩
        have HB2 := hide ((unhide HB1).trans (hb2.mono (unhide HB1).size))
        have HN2 := Lib.hid hn2
        have HI2 := hide (InC.own hO2)
        clear hb2 hn2 hO2
        go_wp2_with fail
        refine (HSA.out _ _ _ _ HN2.out (unhide HI2)).mono ?_
        rintro e w4 ⟨rfl, hb4⟩
        have HB4 := hide ((unhide HB2).trans (hb4.mono (unhide HB2).size))
        clear hb4
        go_wp2_with fail
        refine (HPX.out _).mono ?_
        rintro e w3 ⟨S3, c3, n3, rfl, hn3, hO3, hb3⟩
        have HB3 := hide ((unhide HB4).trans (hb3.mono (unhide HB4).size))
        obtain rfl : n3 = 0 := hn3
        clear hb3 hO3
        go_wp2_with fail
        go_ret2
        exact ⟨by rw [HR.out]; rfl, unhide HB3⟩
      | cons s l =>
        have HR : Hid (bigI x = bnd (foldI (pt s) l)) := Lib.hid (by unfold bigI; rw [if_pos hok, hps])
        rw [hps] at HPX HSA HPU hsets HLP
        have hsA := (pt_set (hsets s (by simp))).1
        have HFO := foldI_ok hsA l
        have HSL := Lib.hid (pt_len s)
        have HPS := Lib.hid (fun w => HPU.out s (by simp) w)
        have HBN := Lib.hid (fun A n c w (hn : n = (foldI (pt s) l).length) hr => rbounded_any (foldI (pt s) l) A n c w hn (by have := pt_len s; omega) (fun u hu => pt_size48 s u (HFO.2.2 u hu)) hr)
        have HHAS := Lib.hid (fun t v A n c w (hn : n = (pt t).length) hr => rhas_any (pt t) v A n c w hn (by rw [hn]; have := pt_len t; omega) hr)
        have HFA := Lib.hid (fun n k (hn : n = (s :: l).length) (hk : k = (pt s).length) => filtI_all s l hsA hn hk)
        have HS0 : Hid ((s :: l)[0]? = some s) := Lib.hid rfl
        have HLN : Hid (0 < (s :: l).length) := Lib.hid (by simp)
        generalize bigI x = r at *
        generalize foldI (pt s) l = fl at *
        generalize bnd fl = rr at *
        generalize s :: l = ps at *
        obtain ⟨i0, hi0, hiz0, hiz1, hiz2⟩ := info_parts val_info
        clear h5 h6 hok hsets hps hsA HFO
        go_enter Tryz.func54, Tryz.ntmps54
        go_wp2_with fail
        refine (unhide HX).mono ?_
        rintro e w1 ⟨rfl, hb1⟩
        have HB1 := hide ((unhide HB0).trans (hb1.mono (by omega)))
        clear hb1
        go_wp2_with fail
        refine (HPX.out _).mono ?_
        rintro e w2 ⟨S2, c2, n2, rfl, hn2, hO2, hb2⟩
        have HB2 := hide ((unhide HB1).trans (hb2.mono (unhide HB1).size))
        have HN2 := Lib.hid hn2
        have HI2 := hide (InC.own hO2)
        clear hb2 hn2 hO2
        go_wp2_with fail
        refine (HSA.out _ _ _ _ HN2.out (unhide HI2)).mono ?_
        rintro e w4 ⟨rfl, hb4⟩
        have HB4 := hide ((unhide HB2).trans (hb4.mono (unhide HB2).size))
        clear hb4
        go_wp2_with fail
        refine (HPX.out _).mono ?_
        rintro e w3 ⟨S3, c3, n3, rfl, hn3, hO3, hb3⟩
        have HB3 := hide ((unhide HB4).trans (hb3.mono (unhide HB4).size))
        have HN3 := Lib.hid hn3
        have hnb : n3 ≤ 65536 := by rw [hn3]; exact HLP.out
        have hn0 : 0 < n3 := by rw [hn3]; exact HLN.out
        have HI3 := hide (InC.own hO3)
        obtain ⟨b0, o0, hS3, hb0, hc0⟩ := at1s (unhide HI3) (i := 0) (u := .string s) (by rw [List.getElem?_map, HS0.out]; rfl)
        subst hS3
        rw [Nat.add_zero] at hc0
        clear hb3 hn3 hO3
        go_wp2_with fail
        refine (HPS.out _).mono ?_
        rintro e w5 ⟨S5, c5, n5, rfl, hn5, hO5, hb5⟩
        have HB5 := hide ((unhide HB3).trans (hb5.mono (unhide HB3).size))
        have HN5 := Lib.hid hn5
        have hnb5 : n5 ≤ 65536 := by rw [hn5]; exact HSL.out
        have HI5 := hide (InC.own hO5)
        have HI35 := hide ((unhide HI3).below hb5)
        clear hb5 hn5 hO5 hc0
        go_wp2_with fail
        go_loopw [5, 7] (fun kv iv wr => ∃ (k q : Nat) (ls : List ByteArray), iv = .int .i64 k ∧ k ≤ n5 ∧ q ≤ k ∧ Hid (q = ls.length) ∧ Hid (ls = filtI ps (pt s) n3 k) ∧ Hid (wr.ownsRow w5.heap.size 22 1 kv q (ls.map Value.string)) ∧ Hid (Below w5.heap.size w5 wr)) (fun _ iv _ => n5 - (intOf iv).toNat)
        case atStart => exact ⟨0, 0, [], rfl, by omega, by omega, rfl, by unfold filtI; rw [List.take_zero]; rfl, World.ownsRow_nil _ _ _ _, Below.refl _ _⟩
        case round =>
          obtain ⟨k, q, ls, rfl, hk, hq, hql, hls, hO, hB⟩ := hrel
          obtain ⟨A4, c4, rfl⟩ := owns_form hO.out
          by_cases hkL : k < n5
          · obtain ⟨v, hv⟩ : ∃ v, (pt s)[k]? = some v := ⟨(pt s)[k]'(by have := HN5.out; omega), List.getElem?_eq_getElem _⟩
            have HF := Lib.hid (filtI_step (ps := ps) (n := n3) hv)
            rename World => wo
            obtain ⟨b6, o6, hS5, hb6, hc6⟩ := at1s (unhide HI5) (i := k) (u := .string v) (by rw [List.getElem?_map, hv]; rfl)
            subst hS5
            have HO := hide hO.out
            have HBw := hide hB.out
            clear hv hO hB
            go_wp2_with fail
            go_loopw [8, 9] (fun bv iv wr => ∃ (j : Nat) (bb : Bool), bv = .bool bb ∧ iv = .int .i64 j ∧ 1 ≤ j ∧ j ≤ n3 ∧ Hid (bb = aI ps v j) ∧ Hid (Below wo.heap.size wo wr)) (fun _ iv _ => n3 - (intOf iv).toNat)
            case atStart => exact ⟨1, true, rfl, rfl, by omega, by omega, (aI_one _ _).symm, Below.refl _ _⟩
            case round =>
              obtain ⟨j, bb, rfl, rfl, hj1, hj, hbb, hB6⟩ := hrel
              have HC6 : Hid (wr.cell? ⟨b6, o6 + k, none⟩ = some (.string v)) := Lib.hid (by
                have h1 := (unhide HBw).size
                exact (hB6.out.cell (p := ⟨b6, o6 + k, none⟩) (by show b6 < wo.heap.size; omega)).trans (((unhide HBw).cell (p := ⟨b6, o6 + k, none⟩) hb6).trans hc6))
              by_cases hjL : j < n3
              · obtain ⟨t, ht⟩ : ∃ t, ps[j]? = some t := ⟨ps[j]'(by have := HN3.out; omega), List.getElem?_eq_getElem _⟩
                obtain ⟨b7, o7, hS7, hb7, hc7o⟩ := at1s ((unhide HI35).below (unhide HBw)) (i := j) (u := .string t) (by rw [List.getElem?_map, ht]; rfl)
                have hc7 := (hB6.out.cell (p := ⟨b7, o7 + j, none⟩) hb7).trans hc7o
                obtain ⟨rfl, rfl⟩ : b7 = b0 ∧ o7 = o0 := by
                  injection hS7 with h1
                  injection h1 with h2 h3
                  exact ⟨h2.symm, h3.symm⟩
                have HS := Lib.hid (aI_step (v := v) hj1 ht)
                have HC := Lib.hid (fun w => HPU.out t (List.mem_of_getElem? ht) w)
                have HH := Lib.hid (fun A n c w hn hr => HHAS.out t v A n c w hn hr)
                clear ht hc6 hc7o
                cases bb with
                | false =>
                  have HE : Hid (false = aI ps v (j + 1)) := Lib.hid (by rw [HS.out, ← hbb.out]; rfl)
                  clear HS hbb
                  have hc6 := HC6.out
                  go_wp2_with fail
                  have HBD : Hid (Below wo.heap.size wo wr.drew) := hide (below_drew hB6.out)
                  refine wp_region_noPanic ?_
                  refine wp_region_held_drew (S := fun W => True) (by kernel_rfl) trivial (fun _ => ?_)
                  generalize wr.drew = wd at *
                  try simp only [Act.put, List.setIfInBounds_toArray, List.set_cons_zero, List.set_cons_succ]
                  refine wpAnyH_take (i := 0) (oi := { dst := some 41, op := Op.move (Operand.tmp 8), type := 4, pos := "finset.go:94", after := #[], guard := none }) (v := ?_) rfl (by kernel_rfl) (by kernel_rfl) (by kernel_rfl) (fun _ _ _ h => h) (Or.inl ⟨by rfl, ?_⟩) trivial ?_
                  rotate_left 1
                  · intro w hSw
                    try dsimp only at hSw
                    go_simp
                    first
                      | done
                      | with_reducible rfl
                      | rw [if_neg (by omega)]
                  try simp only [Act.put, List.setIfInBounds_toArray, List.set_cons_zero, List.set_cons_succ]
                  refine wpAnyH_take (i := 1) (oi := { dst := some 42, op := Op.move (Operand.tmp 41), type := 4, pos := "finset.go:94", after := #[{ on := 0, ground := Ground.data }], guard := none }) (v := ?_) rfl (by kernel_rfl) (by kernel_rfl) (by kernel_rfl) (fun _ _ _ h => h) (Or.inl ⟨by rfl, ?_⟩) trivial ?_
                  rotate_left 1
                  · intro w hSw
                    try dsimp only at hSw
                    go_simp
                    first
                      | done
                      | with_reducible rfl
                      | rw [if_neg (by omega)]
                  try simp only [Act.put, List.setIfInBounds_toArray, List.set_cons_zero, List.set_cons_succ]
                  refine wpAnyH_take (i := 2) (oi := { dst := some 43, op := Op.move (Operand.tmp 4), type := 33, pos := "finset.go:94", after := #[{ on := 1, ground := Ground.guard }], guard := some (1, true) }) (v := undef) rfl (by kernel_rfl) (by kernel_rfl) (by kernel_rfl) (fun _ _ _ h => h) (Or.inr ⟨by rfl, rfl⟩) trivial ?_
                  try simp only [Act.put, List.setIfInBounds_toArray, List.set_cons_zero, List.set_cons_succ]
                  refine wpAnyH_take (i := 3) (oi := { dst := some 44, op := Op.move (Operand.tmp 9), type := 3, pos := "finset.go:94", after := #[{ on := 1, ground := Ground.guard }], guard := some (1, true) }) (v := undef) rfl (by kernel_rfl) (by kernel_rfl) (by kernel_rfl) (fun _ _ _ h => h) (Or.inr ⟨by rfl, rfl⟩) trivial ?_
                  try simp only [Act.put, List.setIfInBounds_toArray, List.set_cons_zero, List.set_cons_succ]
                  refine wpAnyH_take (i := 4) (oi := { dst := some 45, op := Op.indexAddr 33 (Operand.tmp 43) (Operand.tmp 44), type := 0, pos := "finset.go:94", after := #[{ on := 2, ground := Ground.data }, { on := 3, ground := Ground.data }, { on := 1, ground := Ground.guard }], guard := some (1, true) }) (v := undef) rfl (by kernel_rfl) (by kernel_rfl) (by kernel_rfl) (fun _ _ _ h => h) (Or.inr ⟨by rfl, rfl⟩) trivial ?_
                  try simp only [Act.put, List.setIfInBounds_toArray, List.set_cons_zero, List.set_cons_succ]
                  refine wpAnyH_take (i := 5) (oi := { dst := some 46, op := Op.load 22 (Operand.tmp 45), type := 22, pos := "finset.go:94", after := #[{ on := 4, ground := Ground.data }, { on := 1, ground := Ground.guard }], guard := some (1, true) }) (v := undef) rfl (by kernel_rfl) (by kernel_rfl) (by kernel_rfl) (fun _ _ _ h => h) (Or.inr ⟨by rfl, rfl⟩) trivial ?_
                  try simp only [Act.put, List.setIfInBounds_toArray, List.set_cons_zero, List.set_cons_succ]
                  refine wpAnyH_take (i := 6) (oi := { dst := some 47, op := Op.call { callee := Callee.value (Operand.func 36), args := #[Operand.tmp 46], argTypes := #[22] }, type := 33, pos := "finset.go:94", after := #[{ on := 5, ground := Ground.data }, { on := 1, ground := Ground.chain }, { on := 1, ground := Ground.guard }], guard := some (1, true) }) (v := undef) rfl (by kernel_rfl) (by kernel_rfl) (by kernel_rfl) (fun _ _ _ h => h) (Or.inr ⟨by rfl, rfl⟩) trivial ?_
                  try simp only [Act.put, List.setIfInBounds_toArray, List.set_cons_zero, List.set_cons_succ]
                  refine wpAnyH_take (i := 7) (oi := { dst := some 48, op := Op.move (Operand.tmp 6), type := 33, pos := "finset.go:94", after := #[{ on := 1, ground := Ground.guard }], guard := some (1, true) }) (v := undef) rfl (by kernel_rfl) (by kernel_rfl) (by kernel_rfl) (fun _ _ _ h => h) (Or.inr ⟨by rfl, rfl⟩) trivial ?_
                  try simp only [Act.put, List.setIfInBounds_toArray, List.set_cons_zero, List.set_cons_succ]
                  refine wpAnyH_take (i := 8) (oi := { dst := some 49, op := Op.move (Operand.tmp 7), type := 3, pos := "finset.go:94", after := #[{ on := 1, ground := Ground.guard }], guard := some (1, true) }) (v := undef) rfl (by kernel_rfl) (by kernel_rfl) (by kernel_rfl) (fun _ _ _ h => h) (Or.inr ⟨by rfl, rfl⟩) trivial ?_
                  try simp only [Act.put, List.setIfInBounds_toArray, List.set_cons_zero, List.set_cons_succ]
                  refine wpAnyH_take (i := 9) (oi := { dst := some 50, op := Op.indexAddr 33 (Operand.tmp 48) (Operand.tmp 49), type := 0, pos := "finset.go:94", after := #[{ on := 7, ground := Ground.data }, { on := 8, ground := Ground.data }, { on := 1, ground := Ground.guard }], guard := some (1, true) }) (v := undef) rfl (by kernel_rfl) (by kernel_rfl) (by kernel_rfl) (fun _ _ _ h => h) (Or.inr ⟨by rfl, rfl⟩) trivial ?_
                  try simp only [Act.put, List.setIfInBounds_toArray, List.set_cons_zero, List.set_cons_succ]
                  refine wpAnyH_take (i := 10) (oi := { dst := some 51, op := Op.load 22 (Operand.tmp 50), type := 22, pos := "finset.go:94", after := #[{ on := 9, ground := Ground.data }, { on := 1, ground := Ground.guard }], guard := some (1, true) }) (v := undef) rfl (by kernel_rfl) (by kernel_rfl) (by kernel_rfl) (fun _ _ _ h => h) (Or.inr ⟨by rfl, rfl⟩) trivial ?_
                  try simp only [Act.put, List.setIfInBounds_toArray, List.set_cons_zero, List.set_cons_succ]
                  refine wpAnyH_take (i := 11) (oi := { dst := some 52, op := Op.call { callee := Callee.value (Operand.func 92), args := #[Operand.tmp 47, Operand.tmp 51], argTypes := #[33, 22] }, type := 4, pos := "finset.go:94", after := #[{ on := 6, ground := Ground.data }, { on := 10, ground := Ground.data }, { on := 6, ground := Ground.chain }, { on := 1, ground := Ground.guard }], guard := some (1, true) }) (v := undef) rfl (by kernel_rfl) (by kernel_rfl) (by kernel_rfl) (fun _ _ _ h => h) (Or.inr ⟨by rfl, rfl⟩) trivial ?_
                  try simp only [Act.put, List.setIfInBounds_toArray, List.set_cons_zero, List.set_cons_succ]
                  refine wpAnyH_take (i := 12) (oi := { dst := some 53, op := Op.pick (Operand.tmp 42) (Operand.tmp 52) (Operand.const (Value.bool false)), type := 4, pos := "finset.go:94", after := #[{ on := 1, ground := Ground.data }, { on := 11, ground := Ground.data }], guard := none }) (v := ?_) rfl (by kernel_rfl) (by kernel_rfl) (by kernel_rfl) (fun _ _ _ h => h) (Or.inl ⟨by rfl, ?_⟩) trivial ?_
                  rotate_left 1
                  · intro w hSw
                    try dsimp only at hSw
                    go_simp
                    first
                      | done
                      | with_reducible rfl
                      | rw [if_neg (by omega)]
                  try simp only [Act.put, List.setIfInBounds_toArray, List.set_cons_zero, List.set_cons_succ]
                  refine wpAnyH_take (i := 13) (oi := { dst := some 8, op := Op.assign (Operand.tmp 53), type := 4, pos := "finset.go:94", after := #[{ on := 12, ground := Ground.data }, { on := 11, ground := Ground.chain }, { on := 0, ground := Ground.phase }, { on := 1, ground := Ground.phase }, { on := 2, ground := Ground.phase }, { on := 3, ground := Ground.phase }, { on := 4, ground := Ground.phase }, { on := 5, ground := Ground.phase }, { on := 6, ground := Ground.phase }, { on := 7, ground := Ground.phase }, { on := 8, ground := Ground.phase }, { on := 9, ground := Ground.phase }, { on := 10, ground := Ground.phase }, { on := 11, ground := Ground.phase }, { on := 12, ground := Ground.phase }], guard := none }) (v := ?_) rfl (by kernel_rfl) (by kernel_rfl) (by kernel_rfl) (fun _ _ _ h => h) (Or.inl ⟨by rfl, ?_⟩) trivial ?_
                  rotate_left 1
                  · intro w hSw
                    try dsimp only at hSw
                    go_simp
                    first
                      | done
                      | with_reducible rfl
                      | rw [if_neg (by omega)]
                  try simp only [Act.put, List.setIfInBounds_toArray, List.set_cons_zero, List.set_cons_succ]
                  refine wpAnyH_done (by kernel_rfl) ?_ _
                  refine NoPanic.normal ?_
                  go_wp2_with fail
                  go_roundw
                  case rel => exact ⟨j + 1, false, rfl, by go_num, by omega, by omega, HE.out, unhide HBD⟩
                  case measure => simp [intOf]; omega
                | true =>
                  have HE : Hid (hasB v (pt t) = aI ps v (j + 1)) := Lib.hid (by rw [HS.out, ← hbb.out]; rfl)
                  generalize hasB v (pt t) = z at *
                  clear HS hbb
                  have hc6 := HC6.out
                  go_wp2_with fail
                  have fd0 : Hid (wr.drew.cell? ⟨b7, o7 + j, none⟩ = some (.string t)) := hc7
                  have fd1 : Hid (wr.drew.cell? ⟨b6, o6 + k, none⟩ = some (.string v)) := hc6
                  have HBD : Hid (Below wo.heap.size wo wr.drew) := hide (below_drew hB6.out)
                  refine wp_region_noPanic ?_
                  refine wp_region_held_drew (S := fun W => W.cell? ⟨b7, o7 + j, none⟩ = some (.string t) ∧ W.cell? ⟨b6, o6 + k, none⟩ = some (.string v)) (by kernel_rfl) ⟨fd0, fd1⟩ (fun _ => ?_)
                  generalize wr.drew = wd at *
                  try simp only [Act.put, List.setIfInBounds_toArray, List.set_cons_zero, List.set_cons_succ]
                  refine wpAnyH_take (i := 0) (oi := { dst := some 41, op := Op.move (Operand.tmp 8), type := 4, pos := "finset.go:94", after := #[], guard := none }) (v := ?_) rfl (by kernel_rfl) (by kernel_rfl) (by kernel_rfl) (fun _ _ _ h => h) (Or.inl ⟨by rfl, ?_⟩) ⟨fd0, fd1⟩ ?_
                  rotate_left 1
                  · intro w hSw
                    obtain ⟨hSw0, hSw1⟩ := hSw
                    go_simp
                    first
                      | done
                      | with_reducible rfl
                      | rw [if_neg (by omega)]
                  try simp only [Act.put, List.setIfInBounds_toArray, List.set_cons_zero, List.set_cons_succ]
                  refine wpAnyH_take (i := 1) (oi := { dst := some 42, op := Op.move (Operand.tmp 41), type := 4, pos := "finset.go:94", after := #[{ on := 0, ground := Ground.data }], guard := none }) (v := ?_) rfl (by kernel_rfl) (by kernel_rfl) (by kernel_rfl) (fun _ _ _ h => h) (Or.inl ⟨by rfl, ?_⟩) ⟨fd0, fd1⟩ ?_
                  rotate_left 1
                  · intro w hSw
                    obtain ⟨hSw0, hSw1⟩ := hSw
                    go_simp
                    first
                      | done
                      | with_reducible rfl
                      | rw [if_neg (by omega)]
                  try simp only [Act.put, List.setIfInBounds_toArray, List.set_cons_zero, List.set_cons_succ]
                  refine wpAnyH_take (i := 2) (oi := { dst := some 43, op := Op.move (Operand.tmp 4), type := 33, pos := "finset.go:94", after := #[{ on := 1, ground := Ground.guard }], guard := some (1, true) }) (v := ?_) rfl (by kernel_rfl) (by kernel_rfl) (by kernel_rfl) (fun _ _ _ h => h) (Or.inl ⟨by rfl, ?_⟩) ⟨fd0, fd1⟩ ?_
                  rotate_left 1
                  · intro w hSw
                    obtain ⟨hSw0, hSw1⟩ := hSw
                    go_simp
                    first
                      | done
                      | with_reducible rfl
                      | rw [if_neg (by omega)]
                  try simp only [Act.put, List.setIfInBounds_toArray, List.set_cons_zero, List.set_cons_succ]
                  refine wpAnyH_take (i := 3) (oi := { dst := some 44, op := Op.move (Operand.tmp 9), type := 3, pos := "finset.go:94", after := #[{ on := 1, ground := Ground.guard }], guard := some (1, true) }) (v := ?_) rfl (by kernel_rfl) (by kernel_rfl) (by kernel_rfl) (fun _ _ _ h => h) (Or.inl ⟨by rfl, ?_⟩) ⟨fd0, fd1⟩ ?_
                  rotate_left 1
                  · intro w hSw
                    obtain ⟨hSw0, hSw1⟩ := hSw
                    go_simp
                    first
                      | done
                      | with_reducible rfl
                      | rw [if_neg (by omega)]
                  try simp only [Act.put, List.setIfInBounds_toArray, List.set_cons_zero, List.set_cons_succ]
                  refine wpAnyH_take (i := 4) (oi := { dst := some 45, op := Op.indexAddr 33 (Operand.tmp 43) (Operand.tmp 44), type := 0, pos := "finset.go:94", after := #[{ on := 2, ground := Ground.data }, { on := 3, ground := Ground.data }, { on := 1, ground := Ground.guard }], guard := some (1, true) }) (v := ?_) rfl (by kernel_rfl) (by kernel_rfl) (by kernel_rfl) (fun _ _ _ h => h) (Or.inl ⟨by rfl, ?_⟩) ⟨fd0, fd1⟩ ?_
                  rotate_left 1
                  · intro w hSw
                    obtain ⟨hSw0, hSw1⟩ := hSw
                    go_simp
                    first
                      | done
                      | with_reducible rfl
                      | rw [if_neg (by omega)]
                  try simp only [Act.put, List.setIfInBounds_toArray, List.set_cons_zero, List.set_cons_succ]
                  refine wpAnyH_take (i := 5) (oi := { dst := some 46, op := Op.load 22 (Operand.tmp 45), type := 22, pos := "finset.go:94", after := #[{ on := 4, ground := Ground.data }, { on := 1, ground := Ground.guard }], guard := some (1, true) }) (v := ?_) rfl (by kernel_rfl) (by kernel_rfl) (by kernel_rfl) (fun _ _ _ h => h) (Or.inl ⟨by rfl, ?_⟩) ⟨fd0, fd1⟩ ?_
                  rotate_left 1
                  · intro w hSw
                    obtain ⟨hSw0, hSw1⟩ := hSw
                    go_simp
                    first
                      | done
                      | with_reducible rfl
                      | rw [if_neg (by omega)]
                  try simp only [Act.put, List.setIfInBounds_toArray, List.set_cons_zero, List.set_cons_succ]
                  refine wpAnyH_take (i := 7) (oi := { dst := some 48, op := Op.move (Operand.tmp 6), type := 33, pos := "finset.go:94", after := #[{ on := 1, ground := Ground.guard }], guard := some (1, true) }) (v := ?_) rfl (by kernel_rfl) (by kernel_rfl) (by kernel_rfl) (fun _ _ _ h => h) (Or.inl ⟨by rfl, ?_⟩) ⟨fd0, fd1⟩ ?_
                  rotate_left 1
                  · intro w hSw
                    obtain ⟨hSw0, hSw1⟩ := hSw
                    go_simp
                    first
                      | done
                      | with_reducible rfl
                      | rw [if_neg (by omega)]
                  try simp only [Act.put, List.setIfInBounds_toArray, List.set_cons_zero, List.set_cons_succ]
                  refine wpAnyH_take (i := 8) (oi := { dst := some 49, op := Op.move (Operand.tmp 7), type := 3, pos := "finset.go:94", after := #[{ on := 1, ground := Ground.guard }], guard := some (1, true) }) (v := ?_) rfl (by kernel_rfl) (by kernel_rfl) (by kernel_rfl) (fun _ _ _ h => h) (Or.inl ⟨by rfl, ?_⟩) ⟨fd0, fd1⟩ ?_
                  rotate_left 1
                  · intro w hSw
                    obtain ⟨hSw0, hSw1⟩ := hSw
                    go_simp
                    first
                      | done
                      | with_reducible rfl
                      | rw [if_neg (by omega)]
                  try simp only [Act.put, List.setIfInBounds_toArray, List.set_cons_zero, List.set_cons_succ]
                  refine wpAnyH_take (i := 9) (oi := { dst := some 50, op := Op.indexAddr 33 (Operand.tmp 48) (Operand.tmp 49), type := 0, pos := "finset.go:94", after := #[{ on := 7, ground := Ground.data }, { on := 8, ground := Ground.data }, { on := 1, ground := Ground.guard }], guard := some (1, true) }) (v := ?_) rfl (by kernel_rfl) (by kernel_rfl) (by kernel_rfl) (fun _ _ _ h => h) (Or.inl ⟨by rfl, ?_⟩) ⟨fd0, fd1⟩ ?_
                  rotate_left 1
                  · intro w hSw
                    obtain ⟨hSw0, hSw1⟩ := hSw
                    go_simp
                    first
                      | done
                      | with_reducible rfl
                      | rw [if_neg (by omega)]
                  try simp only [Act.put, List.setIfInBounds_toArray, List.set_cons_zero, List.set_cons_succ]
                  refine wpAnyH_take (i := 10) (oi := { dst := some 51, op := Op.load 22 (Operand.tmp 50), type := 22, pos := "finset.go:94", after := #[{ on := 9, ground := Ground.data }, { on := 1, ground := Ground.guard }], guard := some (1, true) }) (v := ?_) rfl (by kernel_rfl) (by kernel_rfl) (by kernel_rfl) (fun _ _ _ h => h) (Or.inl ⟨by rfl, ?_⟩) ⟨fd0, fd1⟩ ?_
                  rotate_left 1
                  · intro w hSw
                    obtain ⟨hSw0, hSw1⟩ := hSw
                    go_simp
                    first
                      | done
                      | with_reducible rfl
                      | rw [if_neg (by omega)]
                  try simp only [Act.put, List.setIfInBounds_toArray, List.set_cons_zero, List.set_cons_succ]
                  refine wpAnyH_ready (rs := [6]) (by kernel_rfl) (by simp) ?_
                  refine AllReadyH.cons (o := { dst := some 47, op := Op.call { callee := Callee.value (Operand.func 36), args := #[Operand.tmp 46], argTypes := #[22] }, type := 33, pos := "finset.go:94", after := #[{ on := 5, ground := Ground.data }, { on := 1, ground := Ground.chain }, { on := 1, ground := Ground.guard }], guard := some (1, true) }) rfl (fun K hK => ?_) AllReadyH.nil
                  go_simp
                  go_at_call 36
                  refine (HC.out _).mono ?_
                  rintro e w501 ⟨S8, c8, n8, rfl, hn8, hO8, hb8⟩
                  have HB8 := hide ((unhide HBD).trans (hb8.mono (unhide HBD).size))
                  have hc8 : w501.cell? ⟨b7, o7 + j, none⟩ = some (.string t) := (hb8.cell (p := ⟨b7, o7 + j, none⟩) (by have h1 := (unhide HBw).size; have h2 := (unhide HBD).size; show b7 < _; omega)).trans fd0.out
                  have hd8 : w501.cell? ⟨b6, o6 + k, none⟩ = some (.string v) := (hb8.cell (p := ⟨b6, o6 + k, none⟩) (by have h1 := (unhide HBw).size; have h2 := (unhide HBD).size; show b6 < _; omega)).trans fd1.out
                  have HN8 := Lib.hid hn8
                  have HI8 := hide (InC.own hO8)
                  clear hb8 hn8 hO8
                  try dsimp only
                  refine hK.out _ _ ⟨hc8, hd8⟩ (fun _ => ?_)
                  clear hK K
                  try simp only [Act.put, List.setIfInBounds_toArray, List.set_cons_zero, List.set_cons_succ]
                  refine wpAnyH_ready (rs := [11]) (by kernel_rfl) (by simp) ?_
                  refine AllReadyH.cons (o := { dst := some 52, op := Op.call { callee := Callee.value (Operand.func 92), args := #[Operand.tmp 47, Operand.tmp 51], argTypes := #[33, 22] }, type := 4, pos := "finset.go:94", after := #[{ on := 6, ground := Ground.data }, { on := 10, ground := Ground.data }, { on := 6, ground := Ground.chain }, { on := 1, ground := Ground.guard }], guard := some (1, true) }) rfl (fun K hK => ?_) AllReadyH.nil
                  go_simp
                  go_at_call 92
                  refine (HH.out _ _ _ _ HN8.out (unhide HI8)).mono ?_
                  rintro e w502 ⟨rfl, hw9⟩
                  subst w502
                  try dsimp only
                  refine hK.out _ _ ⟨hc8, hd8⟩ (fun _ => ?_)
                  clear hK K
                  try simp only [Act.put, List.setIfInBounds_toArray, List.set_cons_zero, List.set_cons_succ]
                  refine wpAnyH_take (i := 12) (oi := { dst := some 53, op := Op.pick (Operand.tmp 42) (Operand.tmp 52) (Operand.const (Value.bool false)), type := 4, pos := "finset.go:94", after := #[{ on := 1, ground := Ground.data }, { on := 11, ground := Ground.data }], guard := none }) (v := ?_) rfl (by kernel_rfl) (by kernel_rfl) (by kernel_rfl) (fun _ _ _ h => h) (Or.inl ⟨by rfl, ?_⟩) ⟨hc8, hd8⟩ ?_
                  rotate_left 1
                  · intro w hSw
                    obtain ⟨hSw0, hSw1⟩ := hSw
                    go_simp
                    first
                      | done
                      | with_reducible rfl
                      | rw [if_neg (by omega)]
                  try simp only [Act.put, List.setIfInBounds_toArray, List.set_cons_zero, List.set_cons_succ]
                  refine wpAnyH_take (i := 13) (oi := { dst := some 8, op := Op.assign (Operand.tmp 53), type := 4, pos := "finset.go:94", after := #[{ on := 12, ground := Ground.data }, { on := 11, ground := Ground.chain }, { on := 0, ground := Ground.phase }, { on := 1, ground := Ground.phase }, { on := 2, ground := Ground.phase }, { on := 3, ground := Ground.phase }, { on := 4, ground := Ground.phase }, { on := 5, ground := Ground.phase }, { on := 6, ground := Ground.phase }, { on := 7, ground := Ground.phase }, { on := 8, ground := Ground.phase }, { on := 9, ground := Ground.phase }, { on := 10, ground := Ground.phase }, { on := 11, ground := Ground.phase }, { on := 12, ground := Ground.phase }], guard := none }) (v := ?_) rfl (by kernel_rfl) (by kernel_rfl) (by kernel_rfl) (fun _ _ _ h => h) (Or.inl ⟨by rfl, ?_⟩) ⟨hc8, hd8⟩ ?_
                  rotate_left 1
                  · intro w hSw
                    obtain ⟨hSw0, hSw1⟩ := hSw
                    go_simp
                    first
                      | done
                      | with_reducible rfl
                      | rw [if_neg (by omega)]
                  try simp only [Act.put, List.setIfInBounds_toArray, List.set_cons_zero, List.set_cons_succ]
                  refine wpAnyH_done (by kernel_rfl) ?_ _
                  refine NoPanic.normal ?_
                  go_wp2_with fail
                  go_roundw
                  case rel => exact ⟨j + 1, z, rfl, by go_num, by omega, by omega, HE.out, unhide HB8⟩
                  case measure => simp [intOf]; omega
              · have HE : Hid (bb = aI ps v n3) := Lib.hid (by rw [hbb.out]; congr 1; omega)
                have hc6 := HC6.out
                have HO6 := hide (owns_below (unhide HO) hB6.out)
                have HB6 := hide ((unhide HBw).trans (hB6.out.mono (unhide HBw).size))
                clear hbb hB6 HO
                cases bb with
                | false =>
                  have HLS : Hid (ls = filtI ps (pt s) n3 (k + 1)) := Lib.hid (by rw [HF.out, ← HE.out, ← hls.out]; simp)
                  clear HF HE hls
                  go_wp2_with fail
                  go_roundw
                  case rel => exact ⟨k + 1, q, ls, by go_num, by omega, by omega, hql.out, HLS.out, unhide HO6, unhide HB6⟩
                  case measure => simp [intOf]; omega
                | true =>
                  have HLS : Hid (ls ++ [v] = filtI ps (pt s) n3 (k + 1)) := Lib.hid (by rw [HF.out, ← HE.out, ← hls.out]; rfl)
                  have HQL : Hid (q + 1 = (ls ++ [v]).length) := Lib.hid (by rw [List.length_append, ← hql.out]; rfl)
                  have HO7 := hide ((unhide HO6).alloc (.cells #[.string v] 22))
                  have HB7 := hide ((unhide HB6).alloc (unhide HB6).size (.cells #[.string v] 22))
                  have hz7 := (unhide HB7).size
                  clear HF HE hls hql
                  go_wp2_with (at_builtin; refine wpList_app _ rfl _ _ 33 rfl w5.heap.size 22 i0 _ 1 16 Tryz.underlying33 hi0 hiz0 hiz1 hiz2 rfl (by decide) _ q (ls.map Value.string) rfl (unhide HO7) (some ⟨wr.heap.size, 0, none⟩) 1 1 [.string v] rfl rfl (new_in wr 22 #[.string v]) (one_str v) (by unfold maxLen; omega) (by omega) hz7 ?_; intro v9 w9 hown9 hgrow9 _)
                  have HB9 := hide (below_app (unhide HB7) (unhide HO7) hgrow9)
                  have HO9 : Hid (w9.ownsRow w5.heap.size 22 1 v9 (q + 1) ((ls ++ [v]).map Value.string)) := hide (by rw [List.map_append]; exact hown9)
                  clear hown9 hgrow9
                  go_wp2_with fail
                  go_roundw
                  case rel => exact ⟨k + 1, q + 1, ls ++ [v], by go_num, by omega, by omega, HQL.out, HLS.out, unhide HO9, unhide HB9⟩
                  case measure => simp [intOf]; omega
          · have HLE : Hid (ls = fl) := Lib.hid (by rw [hls.out, HFA.out n3 k HN3.out (by have := HN5.out; omega)])
            have HB6 := hide ((unhide HB5).trans (hB.out.mono (unhide HB5).size))
            have HI6 := hide (InC.own hO.out)
            have HQ2 : Hid (q = fl.length) := Lib.hid (by rw [← HLE.out]; exact hql.out)
            rw [HLE.out] at HI6
            clear hO hB hls hql HLE
            go_wp2_with fail
            refine (HBN.out _ _ _ _ HQ2.out (unhide HI6)).mono ?_
            rintro e w7 ⟨rfl, hb7⟩
            have HB7 := hide ((unhide HB6).trans (hb7.mono (unhide HB6).size))
            clear hb7
            go_wp2_with fail
            go_ret2
            exact ⟨by rw [HR.out]; rfl, unhide HB7⟩

end Go.Proofs.YtaambeficfiacaaGreat
