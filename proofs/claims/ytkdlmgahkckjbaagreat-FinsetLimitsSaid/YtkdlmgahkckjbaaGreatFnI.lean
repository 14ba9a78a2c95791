/- finset's BigInter and Member. Conditions: strings of at most 2^48 bytes. -/
import Derived.Test.YtkdlmgahkckjbaaGreatFnFE
import Derived.Test.YtkdlmgahkckjbaaGreatFnFB
import Derived.Test.YtkdlmgahkckjbaaGreatFnFF
namespace Go.Proofs.YtkdlmgahkckjbaaGreat
open Go.RowKit Go.Shelf VM

/-- a value and an error -/
def RetV (w : World) (r : ByteArray × Int) (e : Ending) (w' : World) : Prop := e = .returned (.tuple #[.string r.1, .int .i64 r.2]) ∧ Below w.heap.size w w'
def combM (K : Bool → Bool → Bool) (x y : ByteArray) : ByteArray × Int := if isK 5 x = true ∧ isK 5 y = true then bnd (mrg K (pt x) (pt y)) else (⟨#[]⟩, 6)
theorem mrg_mem {K : Bool → Bool → Bool} {a b : List ByteArray} {u : ByteArray} : u ∈ mrg K a b ↔ (u ∈ a ∨ u ∈ b) ∧ K (hasB u a) (hasB u b) = true := by
  unfold mrg
  rw [List.mem_filter, sortM_mem, List.mem_append]
theorem mrg_asc (K : Bool → Bool → Bool) (a b : List ByteArray) : Asc (mrg K a b) := filter_asc _ (sortM_asc _)
theorem mrg_len (K : Bool → Bool → Bool) (a b : List ByteArray) : (mrg K a b).length ≤ a.length + b.length := by
  unfold mrg
  have h1 := List.length_filter_le (fun v => K (hasB v a) (hasB v b)) (sortM (a ++ b))
  have h2 := sortM_len (a ++ b)
  rw [List.length_append] at h2
  omega
theorem mrg_size (K : Bool → Bool → Bool) {a b : List ByteArray} (ha : ∀ s ∈ a, s.size ≤ 131072) (hb : ∀ s ∈ b, s.size ≤ 131072) : ∀ s ∈ mrg K a b, s.size ≤ 131072 := fun s hs => (mrg_mem.1 hs).1.elim (ha s) (hb s)
end Go.Proofs.YtkdlmgahkckjbaaGreat
namespace Go.Proofs.YtkdlmgahkckjbaaGreat
open Go.RowKit Go.Shelf VM

theorem sub_tot {x : ByteArray} : 2 * (pt x).length ≤ x.size := by
  cases hv : valB 32 x with
  | false => rw [pt_invalid hv]; exact Nat.zero_le _
  | true =>
    have h2 := tot_two (pt_val x)
    cases ht : treeB x with
    | comp k l =>
      have h := (pt_comp hv ht).2.2.2.1
      have := congrArg ByteArray.size h
      rw [encB_size] at this
      omega
    | int l => rw [pt_simple fun k l' => by rw [ht]; exact fun h => by cases h]; exact Nat.zero_le _
    | bool l => rw [pt_simple fun k l' => by rw [ht]; exact fun h => by cases h]; exact Nat.zero_le _
    | name a l => rw [pt_simple fun k l' => by rw [ht]; exact fun h => by cases h]; exact Nat.zero_le _
theorem flat_pt_len : ∀ l : List ByteArray, 2 * (l.flatMap pt).length ≤ totB l
  | [] => Nat.zero_le _
  | s :: r => by
    have h1 := sub_tot (x := s)
    have h2 := flat_pt_len r
    rw [List.flatMap_cons, List.length_append, totB_cons]
    omega
theorem flat_ptk {l : List ByteArray} {k : Nat} {v : ByteArray} (h : l[k]? = some v) : (l.take (k + 1)).flatMap pt = (l.take k).flatMap pt ++ pt v := by
  rw [List.take_add_one, h, List.flatMap_append]; simp
theorem flat_take_len (l : List ByteArray) (k : Nat) : ((l.take k).flatMap pt).length ≤ (l.flatMap pt).length := by
  conv => rhs; rw [← List.take_append_drop k l, List.flatMap_append, List.length_append]
  omega
def okS (x : ByteArray) : Bool := isK 5 x && (pt x).all (isK 5)
set_option linter.unusedSimpArgs false in
set_option maxRecDepth 100000 in
set_option maxHeartbeats 3200000 in
theorem sos_any (x : ByteArray) (hx : x.size ≤ 281474976710656) (w : World) :
    Calls Tryz.prog 51 #[.string x] w fun e w' => e = .returned (.bool (okS x)) ∧ Below w.heap.size w w' := by
  have HP := hide (pparts_any x hx w)
  have HX := Lib.hid (fun w => isSet_any x hx w)
  have HIS := Lib.hid (fun u (hu : u ∈ pt x) w => isSet_any u (pt_size48 x u hu) w)
  have HOK : Hid (okS x = (isK 5 x && (pt x).all (isK 5))) := Lib.hid rfl
  have HLP := Lib.hid (pt_len x)
  generalize okS x = r at *
  generalize pt x = ps at *
  go_enter Tryz.func51, Tryz.ntmps51
  go_wp2_with fail
  refine (unhide HP).mono ?_
  rintro e w1 ⟨A, c, n, rfl, hn, hO, hb1⟩
  have HN := Lib.hid hn
  have hnb : n ≤ 65536 := by rw [hn]; exact HLP.out
  have HR := hide (InC.own hO)
  have HB1 := hide hb1
  clear hn hO hb1 HP
  go_wp2_with fail
  go_loopw [8] (fun iv wr => ∃ j : Nat, iv = .int .i64 j ∧ j ≤ n ∧ Hid (InC wr A (ps.map Value.string)) ∧ Hid (ps.all (isK 5) = (ps.drop j).all (isK 5)) ∧ Hid (Below w.heap.size w wr)) (fun iv _ => n - (intOf iv).toNat)
  case atStart => exact ⟨0, rfl, by omega, unhide HR, rfl, unhide HB1⟩
  case round =>
    obtain ⟨j, rfl, hj, hR, hA, hB⟩ := hrel
    by_cases hil : j < n
    · obtain ⟨u, hu⟩ : ∃ u, ps[j]? = some u := ⟨ps[j]'(by have := HN.out; omega), List.getElem?_eq_getElem _⟩
      have HC := Lib.hid (fun w => HIS.out u (List.mem_of_getElem? hu) w)
      have HST : Hid (ps.all (isK 5) = (isK 5 u && (ps.drop (j + 1)).all (isK 5))) := Lib.hid (by rw [hA.out]; exact all_step hu)
      obtain ⟨b5, o5, hA1, hb5, hc5⟩ := at1s hR.out (i := j) (u := .string u) (by rw [List.getElem?_map, hu]; rfl)
      subst hA1
      clear hu hA
      go_wp2_with fail
      refine (HC.out _).mono ?_
      rintro e w3 ⟨rfl, hb⟩
      have HB9 := hide (hB.out.trans (hb.mono hB.out.size))
      have HR8 := hide (hR.out.below hb)
      clear hb HC hB hR hc5 hb5
      cases hz : isK 5 u with
      | true =>
        have HA2 : Hid (ps.all (isK 5) = (ps.drop (j + 1)).all (isK 5)) := Lib.hid (by rw [HST.out, hz, Bool.true_and])
        clear HST hz
        go_wp2_with fail
        go_roundw
        case rel => exact ⟨j + 1, by go_num, by omega, unhide HR8, HA2.out, unhide HB9⟩
        case measure => simp [intOf]; omega
      | false =>
        have HA2 : Hid (r = false) := Lib.hid (by rw [HOK.out, HST.out, hz, Bool.false_and, Bool.and_false])
        clear HST hz
        go_wp2_with fail
        go_ret
        exact ⟨by rw [HA2.out]; rfl, unhide HB9⟩
    · have HA2 : Hid (r = isK 5 x) := Lib.hid (by
        rw [HOK.out, hA.out, List.drop_eq_nil_of_le (by have := HN.out; omega)]; simp)
      have HBw := hide hB.out
      generalize isK 5 x = z at *
      go_wp2_with fail
      refine (HX.out _).mono ?_
      rintro e w3 ⟨rfl, hb⟩
      have HB9 := hide ((unhide HBw).trans (hb.mono (unhide HBw).size))
      clear hb
      go_wp2_with fail
      go_ret
      exact ⟨by rw [HA2.out]; rfl, unhide HB9⟩
def bigU (x : ByteArray) : ByteArray × Int := if okS x = true then bnd ((pt x).flatMap pt) else (⟨#[]⟩, 6)
/-! BigInter -/
def foldI (c : List ByteArray) (l : List ByteArray) : List ByteArray := l.foldl (fun c t => mrg (fun p q => p && q) c (pt t)) c
theorem foldI_snoc (c l : List ByteArray) (t : ByteArray) : foldI c (l ++ [t]) = mrg (fun p q => p && q) (foldI c l) (pt t) := by unfold foldI; rw [List.foldl_append]; rfl
theorem and_filter {a b : List ByteArray} (ha : Asc a) : mrg (fun p q => p && q) a b = a.filter fun v => hasB v b :=
  asc_unique (mrg_asc _ _ _) (filter_asc _ ha) fun u => by
    rw [mrg_mem, List.mem_filter, Bool.and_eq_true, hasB_iff, hasB_iff]
    exact ⟨fun q => q.2, fun q => ⟨.inl q.1, q⟩⟩
theorem foldI_ok {c : List ByteArray} (hc : Asc c) : ∀ l : List ByteArray, Asc (foldI c l) ∧ (foldI c l).length ≤ c.length ∧ ∀ u ∈ foldI c l, u ∈ c := by
  suffices h : ∀ (l : List ByteArray) (d : List ByteArray), Asc d → d.length ≤ c.length → (∀ u ∈ d, u ∈ c) → Asc (foldI d l) ∧ (foldI d l).length ≤ c.length ∧ ∀ u ∈ foldI d l, u ∈ c from
    fun l => h l c hc (Nat.le_refl _) fun _ h => h
  intro l
  induction l with
  | nil => intro d h1 h2 h3; exact ⟨h1, h2, h3⟩
  | cons t l ih =>
    intro d h1 h2 h3
    refine ih _ (mrg_asc _ _ _) ?_ fun u hu => ?_
    · show (mrg (fun p q => p && q) d (pt t)).length ≤ c.length
      rw [and_filter h1]
      exact Nat.le_trans (List.length_filter_le _ _) h2
    · change u ∈ mrg (fun p q => p && q) d (pt t) at hu
      rw [and_filter h1] at hu
      exact h3 u (List.mem_filter.1 hu).1
def bigI (x : ByteArray) : ByteArray × Int := if okS x = true then (match pt x with
  | [] => (⟨#[]⟩, 12)
  | s :: r => bnd (foldI (pt s) r)) else (⟨#[]⟩, 6)

end Go.Proofs.YtkdlmgahkckjbaaGreat
namespace Go.Proofs.YtkdlmgahkckjbaaGreat
open Go.RowKit Go.Shelf VM

set_option linter.unusedSimpArgs false in
set_option maxRecDepth 100000 in
set_option maxHeartbeats 6400000 in
theorem pBigInter_any (x : ByteArray) (hx : x.size ≤ 281474976710656) (w : World) :
    Calls Tryz.prog 29 #[.string x] w (RetV w (bigI x)) := by
  have HX := hide (sos_any x hx w)
  cases h5 : okS x with
  | false =>
    have HR : Hid (bigI x = (⟨#[]⟩, 6)) := Lib.hid (by unfold bigI; rw [h5]; rfl)
    rw [h5] at HX
    clear h5
    go_enter Tryz.func29, Tryz.ntmps29
    go_wp2_with fail
    refine (unhide HX).mono ?_
    rintro e w1 ⟨rfl, hb1⟩
    have HB1 := hide hb1
    clear hb1
    go_wp2_with fail
    go_ret2
    exact ⟨by rw [HR.out]; rfl, unhide HB1⟩
  | true =>
    have HPX := Lib.hid (fun w => pparts_any x hx w)
    have HPU := Lib.hid (fun u (hu : u ∈ pt x) w => pparts_any u (pt_size48 x u hu) w)
    have hsets : ∀ u ∈ pt x, isK 5 u = true := fun u hu => by
      unfold okS at h5
      rw [Bool.and_eq_true] at h5
      exact List.all_eq_true.1 h5.2 u hu
    have HLP := pt_len x
    rw [h5] at HX
    cases hps : pt x with
    | nil =>
      have HR : Hid (bigI x = (⟨#[]⟩, 12)) := Lib.hid (by unfold bigI; rw [if_pos h5, hps])
      rw [hps] at HPX
      clear h5 hsets HPU HLP hps
      go_enter Tryz.func29, Tryz.ntmps29
      go_wp2_with fail
      refine (unhide HX).mono ?_
      rintro e w1 ⟨rfl, hb1⟩
      have HB1 := hide hb1
      clear hb1
      go_wp2_with fail
      refine (HPX.out _).mono ?_
      rintro e w3 ⟨S3, c3, n3, rfl, hn3, hO3, hb3⟩
      have HB3 := hide ((unhide HB1).trans (hb3.mono (unhide HB1).size))
      obtain rfl : n3 = 0 := hn3
      clear hb3 hO3
      go_wp2_with fail
      go_ret2
      exact ⟨by rw [HR.out]; rfl, unhide HB3⟩
    | cons s l =>
      have HR : Hid (bigI x = bnd (foldI (pt s) l)) := Lib.hid (by unfold bigI; rw [if_pos h5, hps])
      rw [hps] at HPX HPU hsets HLP
      have hsA := (pt_set (hsets s (by simp))).1
      have HFO := Lib.hid (fun k => foldI_ok hsA (l.take k))
      have HSL := Lib.hid (pt_len s)
      have HSZ := Lib.hid (pt_size s)
      have HSET := Lib.hid (fun u (hu : u ∈ s :: l) => (pt_set (hsets u hu)).1)
      have HPS := Lib.hid (fun w => HPU.out s (by simp) w)
      have HCO := Lib.hid (fun Bs A n c hn w hBs hc hI => coll_any Bs A n c (foldI (pt s) l) (fun u hu => pt_size s u ((foldI_ok hsA l).2.2 u hu)) (fun _ => asc_nodup (foldI_ok hsA l).1) (by have := (foldI_ok hsA l).2.1; have := pt_len s; omega) hn w hBs hc hI)
      have HLL : Hid ((s :: l).length = l.length + 1) := Lib.hid rfl
      have hl6 : l.length ≤ 65536 := by simp at HLP; omega
      have HGET := Lib.hid (fun j u (h : l[j]? = some u) => show (s :: l)[j + 1]? = some u from h)
      generalize bigI x = r at *
      clear h5 hsets HLP hps hsA
      go_enter Tryz.func29, Tryz.ntmps29
      go_wp2_with fail
      refine (unhide HX).mono ?_
      rintro e w1 ⟨rfl, hb1⟩
      have HB1 := hide hb1
      clear hb1
      go_wp2_with fail
      refine (HPX.out _).mono ?_
      rintro e w3 ⟨S3, c3, n3, rfl, hn3, hO3, hb3⟩
      have HB3 := hide ((unhide HB1).trans (hb3.mono (unhide HB1).size))
      obtain ⟨m, hm⟩ : ∃ m, m = l.length := ⟨_, rfl⟩
      have HM := Lib.hid hm
      obtain rfl : n3 = m + 1 := by rw [hn3, hm]; rfl
      obtain ⟨g, c', e, hg1, hg2, hcap, hcell⟩ := owns_cell hO3 (by omega)
      injection e with e1 e2 e3
      subst e1; subst e3
      have hc0 : w3.cell? ⟨g, 0, none⟩ = some (.string s) := hcell 0 _ rfl
      have HCELL := Lib.hid hcell
      have hm6 : m ≤ 65536 := by omega
      clear hb3 hn3 hO3 hm hcell e2 hl6
      have gz : (((m : Int) + 1) == 0) = false := beq_eq_false_iff_ne.2 (by omega)
      go_wp2_with fail
      refine (HPS.out _).mono ?_
      rintro e w4 ⟨S4, c4, n4, rfl, hn4, hO4, hb4⟩
      have HB4 := hide ((unhide HB3).trans (hb4.mono (unhide HB3).size))
      have HN4 := Lib.hid hn4
      have HI4 := hide (InC.own hO4)
      have HC4 := Lib.hid (fun j u h => (hb4.cell (p := ⟨g, j, none⟩) hg2).trans (HCELL.out j u h))
      have hg4 : g < w4.heap.size := Nat.lt_of_lt_of_le hg2 hb4.size
      clear hb4 hn4 hO4 hc0
      by_cases hc1 : c3 = 1
      · subst hc1
        obtain rfl : m = 0 := by omega
        go_wp2_with fail
        go_loopw [5, 23] (fun cv iv wr => ∃ (k q : Nat) (A : Option Addr) (c : Nat) (ls : List ByteArray), iv = .int .i64 k ∧ k ≤ 0 ∧ cv = .slice A q c ∧ q ≤ 65536 ∧ Hid (q = ls.length) ∧ Hid (ls = foldI (pt s) (l.take k)) ∧ Hid (InC wr A (ls.map Value.string)) ∧ Hid (Below w4.heap.size w4 wr)) (fun _ iv _ => 0 - (intOf iv).toNat)
        case atStart => exact ⟨0, n4, S4, c4, pt s, rfl, by omega, rfl, by rw [HN4.out]; exact HSL.out, HN4.out, rfl, unhide HI4, Below.refl _ _⟩
        case round =>
          obtain ⟨k, q, A5, c5, ls, rfl, hk, rfl, hq, hql, hls, hI, hB⟩ := hrel
          by_cases hkL : k < 0
          · omega
          · have HLE : Hid (ls = foldI (pt s) l) := Lib.hid (by rw [hls.out, List.take_of_length_le (by have := HM.out; omega)])
            have HB5 := hide ((unhide HB4).trans (hB.out.mono (unhide HB4).size))
            have HQ2 : Hid (q = (foldI (pt s) l).length) := Lib.hid (by rw [← HLE.out]; exact hql.out)
            have HI5 := hide hI.out
            rw [HLE.out] at HI5
            clear hI hB hls hql HLE
            generalize wr = w5 at *
            go_wp2_with fail
            refine (vals_any A5 q c5 w5).mono ?_
            rintro e w6 ⟨rfl, rfl⟩
            have HCC := hide (HCO.out w5.heap.size A5 q c5 HQ2.out (w5.alloc (.cells #[.slice A5 q c5] 22)) (by simp) ((Blk.new w5 22 #[.slice A5 q c5]).cell 0) ((unhide HI5).alloc _))
            have HB6 := hide ((unhide HB5).alloc (unhide HB5).size (.cells #[.slice A5 q c5] 22))
            go_wp2_with fail
            refine (unhide HCC).mono ?_
            rintro e w7 ⟨rfl, hb7⟩
            have HB7 := hide ((unhide HB6).trans (hb7.mono (unhide HB6).size))
            clear hb7
            go_wp2_with fail
            go_ret2
            exact ⟨by rw [HR.out]; rfl, unhide HB7⟩
      · have hc2 : 2 ≤ c3 := by omega
        go_wp2_with fail
        go_loopw [5, 23] (fun cv iv wr => ∃ (k q : Nat) (A : Option Addr) (c : Nat) (ls : List ByteArray), iv = .int .i64 k ∧ k ≤ m ∧ cv = .slice A q c ∧ q ≤ 65536 ∧ Hid (q = ls.length) ∧ Hid (ls = foldI (pt s) (l.take k)) ∧ Hid (InC wr A (ls.map Value.string)) ∧ Hid (Below w4.heap.size w4 wr)) (fun _ iv _ => m - (intOf iv).toNat)
        case atStart => exact ⟨0, n4, S4, c4, pt s, rfl, by omega, rfl, by rw [HN4.out]; exact HSL.out, HN4.out, rfl, unhide HI4, Below.refl _ _⟩
        case round =>
          obtain ⟨k, q, A5, c5, ls, rfl, hk, rfl, hq, hql, hls, hI, hB⟩ := hrel
          by_cases hkL : k < m
          · have gk : decide ((k : Int) < (m : Int)) = true := decide_eq_true (by omega)
            obtain ⟨v, hv⟩ : ∃ v, l[k]? = some v := ⟨l[k]'(by have := HM.out; omega), List.getElem?_eq_getElem _⟩
            have hc5' : wr.cell? ⟨g, 1 + k, none⟩ = some (.string v) := by
              rw [Nat.add_comm]
              exact (hB.out.cell (p := ⟨g, k + 1, none⟩) hg4).trans (HC4.out (k + 1) _ (by rw [List.getElem?_map, HGET.out k v hv]; rfl))
            have hvm : v ∈ s :: l := List.mem_cons_of_mem _ (List.mem_of_getElem? hv)
            have HC := Lib.hid (fun w => HPU.out v hvm w)
            have HLS : Hid (mrg (fun p q => p && q) ls (pt v) = foldI (pt s) (l.take (k + 1))) := Lib.hid (by
              rw [List.take_add_one, hv]
              show _ = foldI (pt s) (l.take k ++ [v])
              rw [foldI_snoc, hls.out])
            have HLA : Hid (Asc ls ∧ ls.length ≤ (pt s).length ∧ ∀ u ∈ ls, u ∈ pt s) := Lib.hid (by rw [hls.out]; exact HFO.out k)
            have HME := Lib.hid (fun B m cb w (hm : m = (pt v).length) hA hB => mergeB ls (pt v) A5 B q m c5 cb w hql.out hm (by omega) (by have := pt_len v; omega) HLA.out.1 (HSET.out v hvm) (fun u hu => HSZ.out u (HLA.out.2.2 u hu)) (pt_size v) hA hB)
            have HQ2 : Hid ((mrg (fun p q => p && q) ls (pt v)).length ≤ 65536) := Lib.hid (by
              rw [and_filter HLA.out.1]
              have := List.length_filter_le (fun u => hasB u (pt v)) ls
              have := hql.out
              omega)
            clear hv hls hvm
            generalize mrg (fun p q => p && q) ls (pt v) = l2 at *
            go_wp2_with fail
            refine (HC.out _).mono ?_
            rintro e w5 ⟨S5, c6, n5, rfl, hn5, hO5, hb5⟩
            have HB5 := hide (hB.out.trans (hb5.mono hB.out.size))
            have HN5 := Lib.hid hn5
            have HI5 := hide (InC.own hO5)
            have HI6 := hide (hI.out.below hb5)
            clear hn5 hO5 hb5 hI hB hc5'
            go_wp2_with fail
            refine (HME.out _ _ _ _ HN5.out (unhide HI6) (unhide HI5)).mono ?_
            rintro e w6 ⟨S7, c7, n7, rfl, hn7, hO7, hb7⟩
            have HB7 := hide ((unhide HB5).trans (hb7.mono (unhide HB5).size))
            have HN7 := Lib.hid hn7
            have HI7 := hide (InC.own hO7)
            have hq7 : n7 ≤ 65536 := by rw [hn7]; exact HQ2.out
            clear hn7 hO7 hb7
            go_wp2_with fail
            go_roundw
            case rel => exact ⟨k + 1, n7, S7, c7, l2, by go_num, by omega, rfl, hq7, HN7.out, HLS.out, unhide HI7, unhide HB7⟩
            case measure => simp [intOf]; omega
          · have HLE : Hid (ls = foldI (pt s) l) := Lib.hid (by rw [hls.out, List.take_of_length_le (by have := HM.out; omega)])
            have HB5 := hide ((unhide HB4).trans (hB.out.mono (unhide HB4).size))
            have HQ2 : Hid (q = (foldI (pt s) l).length) := Lib.hid (by rw [← HLE.out]; exact hql.out)
            have HI5 := hide hI.out
            rw [HLE.out] at HI5
            clear hI hB hls hql HLE
            generalize wr = w5 at *
            go_wp2_with fail
            refine (vals_any A5 q c5 w5).mono ?_
            rintro e w6 ⟨rfl, rfl⟩
            have HCC := hide (HCO.out w5.heap.size A5 q c5 HQ2.out (w5.alloc (.cells #[.slice A5 q c5] 22)) (by simp) ((Blk.new w5 22 #[.slice A5 q c5]).cell 0) ((unhide HI5).alloc _))
            have HB6 := hide ((unhide HB5).alloc (unhide HB5).size (.cells #[.slice A5 q c5] 22))
            go_wp2_with fail
            refine (unhide HCC).mono ?_
            rintro e w7 ⟨rfl, hb7⟩
            have HB7 := hide ((unhide HB6).trans (hb7.mono (unhide HB6).size))
            clear hb7
            go_wp2_with fail
            go_ret2
            exact ⟨by rw [HR.out]; rfl, unhide HB7⟩

end Go.Proofs.YtkdlmgahkckjbaaGreat
