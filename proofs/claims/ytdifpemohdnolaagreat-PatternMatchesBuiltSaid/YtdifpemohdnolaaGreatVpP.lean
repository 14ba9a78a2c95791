/- value's Parts, Kind and Number; help's Equal at strings. Conditions: at most 2^48 bytes; Equal: lengths below 2^63. -/
import Derived.Test.YtdifpemohdnolaaGreatVpC
import Derived.Laws.OwnMore
import Derived.BigRegion
namespace Go.Proofs.YtdifpemohdnolaaGreat
open Go.RowKit VM

def partsB (s : ByteArray) : List ByteArray := match treeB s with
  | .comp _ l => l.map fun v => toB (enc v)
  | _ => []
def rowP (l : List V) (j : Nat) : List Value := ((l.take j).map fun v => Value.string (toB (enc v))) ++ List.replicate (l.length - j) (.string ⟨#[]⟩)
theorem rowP_zero (l : List V) : rowP l 0 = List.replicate l.length (.string ⟨#[]⟩) := by unfold rowP; simp
theorem rowP_all (l : List V) : rowP l l.length = (l.map fun v => toB (enc v)).map Value.string := by
  unfold rowP
  rw [List.take_length, Nat.sub_self, List.replicate_zero, List.append_nil, List.map_map]; rfl
theorem rowP_len (l : List V) (j : Nat) (h : j ≤ l.length) : (rowP l j).length = l.length := by
  unfold rowP
  rw [List.length_append, List.length_map, List.length_take, List.length_replicate]; omega
theorem rowP_step {l : List V} {j : Nat} {v : V} (h : l[j]? = some v) : (rowP l j).set j (.string (toB (enc v))) = rowP l (j + 1) := by
  have hj : j < l.length := (List.getElem?_eq_some_iff.1 h).1
  unfold rowP
  rw [List.set_append_right _ _ (by rw [List.length_map, List.length_take]; omega), List.length_map, List.length_take, show j - min j l.length = 0 by omega, show l.length - j = (l.length - (j + 1)) + 1 by omega, List.replicate_succ, List.set_cons_zero, List.take_add_one, h, List.map_append, List.append_assoc]
  rfl
theorem made_rep (z : Value) (n : Nat) : (madeCells #[z] n).toList = List.replicate n z := by
  rw [List.eq_replicate_iff]
  refine ⟨by rw [Array.length_toList, size_madeCells], fun b hb => ?_⟩
  unfold madeCells at hb
  rw [Array.toList_map] at hb
  obtain ⟨x, _, rfl⟩ := List.mem_map.1 hb
  show (#[z])[x % 1]! = z
  rw [Nat.mod_one]; rfl
set_option linter.unusedSimpArgs false in
set_option maxRecDepth 100000 in
set_option maxHeartbeats 6400000 in
theorem pparts_comp (s : ByteArray) (k : UInt8) (l : List V) (hv : valB 32 s = true) (ht : treeB s = .comp k l) (w : World) :
    Calls Tryz.prog 92 #[.string s] w fun e w' => ∃ B cb n, e = .returned (.slice B n cb) ∧ n = l.length ∧ w'.ownsRow w.heap.size 23 1 (.slice B n cb) n ((l.map fun v => toB (enc v)).map Value.string) ∧ Below w.heap.size w w' := by
  obtain ⟨t1, t2, t3⟩ := tree_ok hv
  rw [ht] at t1 t2
  have hsk := comp_simple t1
  have hll : l.length < 65536 := by
    unfold wf at t1
    simp only [Bool.and_eq_true, decide_eq_true_eq] at t1
    exact t1.2.1
  have hwp := wf_parts t1
  have hb0 : bs s = k :: UInt8.ofNat (l.length / 256) :: UInt8.ofNat l.length :: encs l := t2
  have hsz := congrArg List.length hb0
  rw [bs_size] at hsz
  simp only [List.length_cons] at hsz
  have h3 : 3 ≤ s.size := by omega
  have h1 : 0 < s.size := by omega
  have e1 : s[0]'h1 = k := by have := bs_get s 0 h1; rw [hb0] at this; exact (Option.some.inj this).symm
  have wk : wrap64 (k.toNat : Int) = (k.toNat : Int) := IntWalk.wrap64_in _ (by have := k.toNat_lt; omega)
  have hu := u16_ofNat l.length hll
  have HV := Lib.hid (fun w => valid_any s (by omega) w)
  rw [hv] at HV
  have HS := Lib.hid (fun w => simple_any k w)
  rw [hsk] at HS
  have HCT := Lib.hid (fun w => count_any s _ _ h3 (by rw [hb0]; rfl) (by rw [hb0]; rfl) w)
  obtain ⟨n, hn⟩ : ∃ n, n = l.length := ⟨_, rfl⟩
  rw [hu, ← hn] at HCT
  have HN := Lib.hid hn
  have HX0 : Hid (bs (s.extract 3 s.size) = encs (l.drop 0)) := Lib.hid (by rw [bs_extract, hb0]; rfl)
  have hz0 : (s.extract 3 s.size).size ≤ 131072 := by rw [← bs_size, bs_extract, List.length_drop, bs_size]; omega
  have HWP := Lib.hid (fun v (h : v ∈ l) => wf_le (d := 31) (e := 32) (by decide) (List.all_eq_true.1 hwp v h))
  have hn6 : n < 65536 := by omega
  obtain ⟨i0, hi0, hiz0, hiz1, hiz2⟩ := info_parts val_info
  clear t1 t2 hsk hll hwp hb0 hsz hu hn ht hv
  go_enter Tryz.func92, Tryz.ntmps92
  go_wp2_with fail
  refine (HV.out _).mono ?_
  rintro e w1 ⟨rfl, hb1⟩
  have HB1 := hide hb1
  clear hb1
  go_wp2_with fail
  refine (HS.out _).mono ?_
  rintro e w2 ⟨rfl, rfl⟩
  go_wp2_with fail
  refine (HCT.out _).mono ?_
  rintro e w2 ⟨rfl, mq, rfl⟩
  have HB1q := hide (below_drewN (unhide HB1) mq)
  generalize w1.drewN mq = w2 at *
  obtain ⟨w3, hmk, hO3, hG3⟩ := run_makeSlice_full (P := Tryz.prog) w2 w.heap.size 24 23 i0 (.string ⟨#[]⟩) 1 Tryz.underlying24 hi0 hiz0 hiz1 .i64 .i64 n (by omega) (by rw [hiz2]; omega) (by unfold maxLen; omega) (unhide HB1q).size
  have HO3 : Hid (w3.ownsRow w.heap.size 23 1 (.slice (some ⟨w2.heap.size, 0, none⟩) n n) n (rowP l 0)) := hide (by
    have e : (madeCells (Value.string ⟨#[]⟩).cells (n * 1)).toList = rowP l 0 := by rw [rowP_zero, ← HN.out, Nat.mul_one]; exact made_rep _ _
    rw [e] at hO3
    exact hO3)
  have HB3 := hide (below_row (v := .slice none 0 0) (unhide HB1q) hG3 (fun j q => by simp [Value.ownBlock] at q))
  generalize w2.heap.size = g at *
  clear hO3 hG3 HB1 HB1q
  go_wp2_with fail
  go_loopw [4, 23] (fun rv iv wr => ∃ (j : Nat) (rs : ByteArray), rv = .string rs ∧ iv = .int .i64 j ∧ j ≤ n ∧ rs.size ≤ 131072 ∧ Hid (bs rs = encs (l.drop j)) ∧ Hid (wr.ownsRow w.heap.size 23 1 (.slice (some ⟨g, 0, none⟩) n n) n (rowP l j)) ∧ Hid (Below w.heap.size w wr)) (fun _ iv _ => n - (intOf iv).toNat)
  case atStart => exact ⟨0, _, rfl, rfl, by omega, hz0, HX0.out, unhide HO3, unhide HB3⟩
  case round =>
    obtain ⟨j, rs, rfl, rfl, hj, hrs, hX, hO, hB⟩ := hrel
    clear HO3 HB3 hmk
    by_cases hjn : j < n
    · have gj : decide ((j : Int) < (n : Int)) = true := decide_eq_true (by omega)
      obtain ⟨v, hvj⟩ : ∃ v, l[j]? = some v := ⟨l[j]'(by have := HN.out; omega), List.getElem?_eq_getElem _⟩
      have hjl := (List.getElem?_eq_some_iff.1 hvj).1
      have hvw := HWP.out v (List.mem_of_getElem? hvj)
      have hXs : bs rs = enc v ++ encs (l.drop (j + 1)) := by
        rw [hX.out, List.drop_eq_getElem_cons hjl]
        rw [List.getElem?_eq_getElem hjl] at hvj
        rw [Option.some.inj hvj]; rfl
      have hdec : dec 32 (bs rs) = some (v, encs (l.drop (j + 1))) := by rw [hXs]; exact dec_of 32 v _ hvw
      have hv0 := enc_pos v hvw
      have hlen := congrArg List.length hXs
      rw [bs_size, List.length_append] at hlen
      have HE := Lib.hid (fun w => end_any 32 (by decide) rs 0 w (by omega) (by omega))
      rw [List.drop_zero, hdec] at HE
      obtain ⟨z, hz⟩ : ∃ z, z = (enc v).length := ⟨_, rfl⟩
      have hez : endD (some (v, encs (l.drop (j + 1)))) rs.size = (z : Int) := by
        show ((rs.size - (encs (l.drop (j + 1))).length : Nat) : Int) = _
        omega
      rw [hez] at HE
      have hz1 : z ≤ rs.size := by omega
      have HP1 : Hid (rs.extract 0 z = toB (enc v)) := Lib.hid (bs_inj (by
        rw [bs_window, hXs, Nat.sub_zero, hz]
        exact List.take_left' rfl))
      have HP2 : Hid (bs (rs.extract z rs.size) = encs (l.drop (j + 1))) := Lib.hid (by
        rw [bs_extract, hXs, hz]
        exact List.drop_left' rfl)
      have hz2 : (rs.extract z rs.size).size ≤ 131072 := by rw [← bs_size, bs_extract, List.length_drop, bs_size]; omega
      have HST := Lib.hid (rowP_step hvj)
      clear hvj hjl hvw hXs hdec hv0 hlen hez hz
      generalize wr = w4 at *
      go_wp2_with fail
      refine (HE.out _).mono ?_
      rintro e w5 ⟨rfl, hb5⟩
      have HO5 := hide (owns_below hO.out hb5)
      have HB5 := hide (hB.out.trans (hb5.mono hB.out.size))
      clear hb5 hO hB HE
      obtain ⟨cur, hcur⟩ : ∃ cur, Blk w5 g 23 cur := by
        rcases (unhide HO5).2 with ⟨q, _⟩ | ⟨g', cap', cur, q, _, hh, _⟩
        · cases q
        · injection q with q1
          injection q1 with q1
          injection q1 with q1
          subst q1
          exact ⟨cur, hh⟩
      have hwg : w.heap.size ≤ g := ((unhide HO5).lt g rfl).1
      have f1 := hcur.frozen j
      obtain ⟨u3, c3⟩ : ∃ u, w5.cell? ⟨g, j, none⟩ = some u := by
        obtain ⟨gz, cz, hz, _, _, _, hcz⟩ := owns_cell (unhide HO5) (by omega)
        injection hz with hz
        injection hz with hz
        injection hz with hz
        subst hz
        exact ⟨_, hcz j _ (List.getElem?_eq_getElem (by rw [rowP_len _ _ (by have := HN.out; omega)]; have := HN.out; omega))⟩
      have hst := World.ownsRow.stored (unhide HO5) j (.string (rs.extract 0 z))
      have HO6 : Hid ((w5.setCell ⟨g, j, none⟩ (.string (rs.extract 0 z))).drew.ownsRow w.heap.size 23 1 (.slice (some ⟨g, 0, none⟩) n n) n (rowP l (j + 1))) := hide (by
        have := hst.1
        rw [HP1.out, HST.out] at this
        rw [HP1.out]
        exact this.drew)
      have HB6 : Hid (Below w.heap.size w (w5.setCell ⟨g, j, none⟩ (.string (rs.extract 0 z))).drew) := hide (below_drew ((unhide HB5).setCell hwg _))
      have rj : IntKind.i64.wrap (j : Int) = (j : Int) := IntWalk.i64_in _ (by omega)
      have rz : IntKind.i64.wrap (z : Int) = (z : Int) := IntWalk.i64_in _ (by omega)
      have pj : (0 : Int) ≤ (j : Int) := by omega
      have pz : (0 : Int) ≤ (z : Int) := by omega
      have bj : (j : Int) < (n : Int) := by omega
      have bz : (z : Int) ≤ (rs.size : Int) := by omega
      have tj : ((j : Int)).toNat = j := by omega
      have tz : ((z : Int)).toNat = z := by omega
      clear hst hcur HO5 HB5 hwg HP1 HST
      go_wp2_with fail
      go_big_region
      generalize (w5.setCell ⟨g, j, none⟩ (.string (rs.extract 0 z))).drew = w6 at *
      clear f1 c3 rj rz tj tz
      go_wp2_with fail
      go_roundw
      case rel => exact ⟨j + 1, _, rfl, by go_num, by omega, hz2, HP2.out, unhide HO6, unhide HB6⟩
      case measure => simp [intOf]; omega
    · obtain rfl : j = n := by omega
      have HRE : Hid (rowP l j = (l.map fun v => toB (enc v)).map Value.string) := Lib.hid (by rw [HN.out]; exact rowP_all l)
      go_wp2_with fail
      go_ret
      exact ⟨_, _, j, rfl, HN.out, by rw [← HRE.out]; exact hO.out, hB.out⟩

theorem parts_encB {d : Nat} (hd : d ≤ 31) {k : UInt8} {ps : List ByteArray} (h : ∀ s ∈ ps, valB d s = true) (hk : isComp k = true) (hp : parted (ord d) k (ps.map treeB) = true) (hz : 3 + totB ps ≤ 131072) :
    treeB (encB k ps) = .comp k (ps.map treeB) ∧ ((ps.map treeB).map fun v => toB (enc v)) = ps := by
  refine ⟨(enc_comp_val hd h hk hp hz).2, ?_⟩
  rw [List.map_map]
  refine (List.map_congr_left fun s hs => ?_).trans (List.map_id _)
  show toB (enc (treeB s)) = s
  rw [← (tree_val (by omega) (h s hs)).2.1]
set_option maxRecDepth 100000 in
set_option maxHeartbeats 3200000 in
theorem pkind_any (s : ByteArray) (k : UInt8) (hb : s.size ≤ 281474976710656) (hv : valB 32 s = true) (h0 : (bs s)[0]? = some k) (w : World) :
    Calls Tryz.prog 90 #[.string s] w fun e w' => e = .returned (.int .i64 (k.toNat : Int)) ∧ Below w.heap.size w w' := by
  have h1 : 0 < s.size := by have := val_two hv; omega
  have e1 : s[0]'h1 = k := by have := bs_get s 0 h1; rw [h0] at this; exact (Option.some.inj this).symm
  have wk : wrap64 (k.toNat : Int) = (k.toNat : Int) := IntWalk.wrap64_in _ (by have := k.toNat_lt; omega)
  have HV := Lib.hid (fun w => valid_any s hb w)
  rw [hv] at HV
  clear h0 hv
  go_enter Tryz.func90, Tryz.ntmps90
  go_wp2_with fail
  refine (HV.out _).mono ?_
  rintro e w1 ⟨rfl, hb1⟩
  have HB1 := hide hb1
  clear hb1
  go_wp2_with fail
  go_ret
  exact ⟨ret_int wk, unhide HB1⟩
set_option maxRecDepth 100000 in
set_option maxHeartbeats 3200000 in
/-- Number of a name -/
theorem pnumber_name (n : Nat) (hn : n < 65536) (w : World) :
    Calls Tryz.prog 97 #[.string (nameB n)] w fun e w' => e = .returned (.int .i64 (n : Int)) ∧ Below w.heap.size w w' := by
  have HK := Lib.hid (fun w => pkind_any (nameB n) 10 (by rw [nameB_size]; omega) (valB_le (d := 1) (by decide) (val_name (Nat.le_refl 1) n).1) rfl w)
  have HNB := Lib.hid (fun w => number_any (nameB n) 10 rfl (by rw [nameB_size]; decide) (by rw [nameB_size]; omega) w)
  have hnum : signed (numV 10 (nameB n)) = (n : Int) := by
    have e : numV 10 (nameB n) = n := by
      show natL (twoL n) = n
      have : natL (twoL n) = u16 (UInt8.ofNat (n / 256)) (UInt8.ofNat n) := by unfold twoL natL u16; simp
      rw [this, u16_ofNat n hn]
    rw [e]; exact signed_small hn
  rw [hnum] at HNB
  clear hnum hn
  generalize nameB n = s at *
  go_enter Tryz.func97, Tryz.ntmps97
  go_wp2_with fail
  refine (HK.out _).mono ?_
  rintro e w1 ⟨rfl, hb1⟩
  have HB1 := hide hb1
  clear hb1
  go_wp2_with fail
  refine (HNB.out _).mono ?_
  rintro e w2 ⟨rfl, rfl⟩
  go_wp2_with fail
  go_ret
  exact ⟨rfl, unhide HB1⟩
/-- are the lists the same? -/
def eqL (a b : List ByteArray) : Bool := decide (a = b)
theorem eqL_step {a b : List ByteArray} {j : Nat} {u v : ByteArray} (hl : a.length = b.length) (h : a.take j = b.take j) (hu : a[j]? = some u) (hv : b[j]? = some v) : (u = v → a.take (j + 1) = b.take (j + 1)) ∧ (u ≠ v → eqL a b = false) := by
  constructor
  · rintro rfl
    rw [List.take_add_one, List.take_add_one, h, hu, hv]
  · intro hne
    refine decide_eq_false fun e => hne ?_
    subst e
    rw [hu] at hv; exact Option.some.inj hv
set_option linter.unusedSimpArgs false in
set_option maxRecDepth 100000 in
set_option maxHeartbeats 3200000 in
theorem eqS_any (a b : List ByteArray) (A B : Option Addr) (n m ca cb : Nat) (w : World) (hn : n = a.length) (hm : m = b.length) (hn1 : n ≤ 9223372036854775807) (hm1 : m ≤ 9223372036854775807) (hr : InC w A (a.map Value.string)) (hr2 : InC w B (b.map Value.string)) :
    Calls Tryz.prog 18 #[.slice A n ca, .slice B m cb] w fun e w' => e = .returned (.bool (eqL a b)) ∧ Below w.heap.size w w' := by
  have HR := hide hr
  have HR2 := hide hr2
  have HN := Lib.hid hn
  have HM := Lib.hid hm
  clear hr hr2 hn hm
  by_cases hnm : n = m
  rotate_left 1
  · have HE : Hid (eqL a b = false) := Lib.hid (decide_eq_false fun e => hnm (by rw [HN.out, HM.out, e]))
    have g : ((n : Int) == (m : Int)) = false := beq_eq_false_iff_ne.2 (by omega)
    go_enter Tryz.func18, Tryz.ntmps18
    go_wp2_with fail
    go_ret
    exact ⟨by rw [HE.out]; rfl, Below.refl _ _⟩
  subst hnm
  go_enter Tryz.func18, Tryz.ntmps18
  go_wp2_with fail
  go_loopw [5] (fun iv wr => ∃ j : Nat, iv = .int .i64 j ∧ j ≤ n ∧ Hid (a.take j = b.take j) ∧ Hid (Below w.heap.size w wr)) (fun iv _ => n - (intOf iv).toNat)
  case atStart => exact ⟨0, rfl, by omega, rfl, Below.refl _ _⟩
  case round =>
    obtain ⟨j, rfl, hj, hT, hB⟩ := hrel
    by_cases hjn : j < n
    · have gj : decide ((j : Int) < (n : Int)) = true := decide_eq_true (by omega)
      obtain ⟨u, hu⟩ : ∃ u, a[j]? = some u := ⟨a[j]'(by have := HN.out; omega), List.getElem?_eq_getElem _⟩
      obtain ⟨v, hv⟩ : ∃ v, b[j]? = some v := ⟨b[j]'(by have := HM.out; omega), List.getElem?_eq_getElem _⟩
      obtain ⟨b5, o5, hA5, hb5, hc5⟩ := at1s ((unhide HR).below hB.out) (i := j) (u := .string u) (by rw [List.getElem?_map, hu]; rfl)
      obtain ⟨b6, o6, hA6, hb6, hc6⟩ := at1s ((unhide HR2).below hB.out) (i := j) (u := .string v) (by rw [List.getElem?_map, hv]; rfl)
      subst hA5 hA6
      have HS := Lib.hid (eqL_step (by rw [← HN.out, ← HM.out]) hT.out hu hv)
      clear hu hv
      by_cases he : u = v
      · have HT2 := Lib.hid (HS.out.1 he)
        subst he
        have hee : (u.toList == u.toList) = true := beq_self_eq_true _
        go_wp2_with fail
        go_quiet (fail)
        go_wp2_with fail
        go_roundw
        case rel => exact ⟨j + 1, by go_num, by omega, HT2.out, below_drewN hB.out _⟩
        case measure => simp [intOf]; omega
      · have hee : (u.toList == v.toList) = false := ne_list he
        have HF := Lib.hid (HS.out.2 he)
        clear he
        go_wp2_with fail
        go_quiet (fail)
        go_wp2_with fail
        go_ret
        exact ⟨by rw [HF.out]; rfl, below_drewN hB.out _⟩
    · have HE : Hid (eqL a b = true) := Lib.hid (decide_eq_true (by
        have := hT.out
        rw [List.take_of_length_le (by have := HN.out; omega), List.take_of_length_le (by have := HM.out; omega)] at this
        exact this))
      go_wp2_with fail
      go_ret
      exact ⟨by rw [HE.out]; rfl, hB.out⟩

end Go.Proofs.YtdifpemohdnolaaGreat
