/- value.Kind, value.Parts and the reference's Parts at every string, finset's isSet and isMap. Conditions: at most 2^48 bytes. -/
import Derived.Test.YtdifpemohdnolaaGreatVpE
import Derived.Test.YtdifpemohdnolaaGreatVpP
namespace Go.Proofs.YtdifpemohdnolaaGreat
open VM

theorem encs_inj {a b : List V} (ha : ∀ v ∈ a, wf 32 v = true) (hb : ∀ v ∈ b, wf 32 v = true) (hl : a.length = b.length) (h : encs a = encs b) : a = b := by
  have h1 := decs_of (f := dec 32) a [] (fun v hv r => dec_of 32 v r (ha v hv))
  have h2 := decs_of (f := dec 32) b [] (fun v hv r => dec_of 32 v r (hb v hv))
  rw [hl, h, h2] at h1
  exact (Prod.mk.inj (Option.some.inj h1)).1.symm
theorem mkM_parts {k : UInt8} (hk : isComp k = true) {ps : List ByteArray} (h : ∀ s ∈ ps, valB 32 s = true) (hv : valB 32 (encB k ps) = true) : (∀ s ∈ ps, valB 31 s = true) ∧ parted (ord 31) k (ps.map treeB) = true ∧ 3 + totB ps ≤ 131072 := by
  obtain ⟨hz, v, h2, h3⟩ := valB_iff.1 hv
  rw [encB_size] at hz
  have h4 := tot_two h
  have hd : dec 32 (bs (encB k ps)) = some (v, []) := by
    rw [h2]
    have := dec_of 32 v [] h3
    rwa [List.append_nil] at this
  obtain ⟨l, rfl, hl⟩ := encB_read hk (by omega) hd
  obtain ⟨t1, t2⟩ := trees_bs (Nat.le_refl _) h
  have h5 := bs_encB (k := k) t1
  rw [h2] at h5
  unfold wf at h3
  simp only [Bool.and_eq_true, decide_eq_true_eq] at h3
  obtain ⟨_, _, h7, h8⟩ := h3
  have hlt : l.length = (ps.map treeB).length := by rw [hl, List.length_map]
  have h6 : encs l = encs (ps.map treeB) := by
    have h9 : k :: UInt8.ofNat (l.length / 256) :: UInt8.ofNat l.length :: encs l = k :: UInt8.ofNat ((ps.map treeB).length / 256) :: UInt8.ofNat (ps.map treeB).length :: encs (ps.map treeB) := h5
    exact (List.cons.inj (List.cons.inj (List.cons.inj h9).2).2).2
  have he : l = ps.map treeB := encs_inj (fun v hv => wf_le (by decide) (List.all_eq_true.1 h7 v hv)) (fun v hv => List.all_eq_true.1 t2 v hv) hlt h6
  rw [he] at h7 h8
  refine ⟨fun s hs => ?_, h8, by omega⟩
  have q := tree_val (Nat.le_refl _) (h s hs)
  exact valB_iff.2 ⟨q.2.2, treeB s, q.2.1, List.all_eq_true.1 h7 _ (List.mem_map_of_mem hs)⟩
theorem mk_same {k : UInt8} (hk : isComp k = true) {ps : List ByteArray} (hp : (∀ s ∈ ps, valB 31 s = true) → parted (ord 31) k (ps.map treeB) = true) : mkP k ps = mkM k ps := by
  by_cases h : (∀ s ∈ ps, valB 31 s = true) ∧ 3 + totB ps ≤ 131072
  · rw [mkP_good (Nat.le_refl _) h.1 h.2]
    have := enc_comp_val (d := 31) (Nat.le_refl _) h.1 hk (hp h.1) h.2
    rw [mkM_val (fun s hs => valB_le (by decide) (h.1 s hs)), if_pos this.1]
  · have hP : mkP k ps = ⟨#[]⟩ := by
      unfold mkP compB
      rw [if_neg (fun q => h ⟨List.all_eq_true.1 q.1, q.2⟩)]
    rw [hP]
    unfold mkM
    rw [if_neg]
    rintro ⟨q1, q2⟩
    obtain ⟨a, b, c⟩ := mkM_parts hk (List.all_eq_true.1 q1) q2
    exact h ⟨a, c⟩
theorem mkM_none {k : UInt8} (hk : isComp k = true) {ps : List ByteArray} (hp : (∀ s ∈ ps, valB 31 s = true) → parted (ord 31) k (ps.map treeB) = true → False) : mkM k ps = ⟨#[]⟩ := by
  unfold mkM
  rw [if_neg]
  rintro ⟨q1, q2⟩
  obtain ⟨a, b, c⟩ := mkM_parts hk (List.all_eq_true.1 q1) q2
  exact hp a b
theorem seq_same (ps : List ByteArray) : mkP 4 ps = mkM 4 ps := by
  refine mk_same (by decide) fun _ => ?_
  unfold parted countOK ascOK
  rw [headL_ne (by decide) (by decide) (by decide)]
  simp
theorem set_same (ps : List ByteArray) : mkP 5 (sortM ps) = mkM 5 (sortM ps) :=
  mk_same (by decide) fun h => parted_set (by decide) h (sortM_asc ps)
theorem inn_one : ∀ {ks vs : List ByteArray} {x : ByteArray}, ks.Nodup → ks.length = vs.length → x ∈ ks → ∃ v, inn x (ks.zip vs) = [x, v]
  | [], _, x, _, _, h => by cases h
  | _ :: _, [], _, _, h, _ => by simp at h
  | k :: ks, v :: vs, x, h, hl, hx => by
    obtain ⟨h1, h2⟩ := List.nodup_cons.1 h
    rw [List.zip_cons_cons, inn_cons]
    by_cases e : k = x
    · subst e
      refine ⟨v, ?_⟩
      rw [if_pos rfl, inn_none fun p hp q => h1 (by rw [← q]; exact (List.of_mem_zip (a := p.1) (b := p.2) hp).1), List.append_nil]
    · rw [if_neg e, List.nil_append]
      exact inn_one h2 (by simpa using hl) ((List.mem_cons.1 hx).resolve_left fun q => e q.symm)
theorem mpL_evens {zs : List (ByteArray × ByteArray)} : ∀ {s : List ByteArray}, (∀ x ∈ s, ∃ v, inn x zs = [x, v]) → evens ((mpL s zs).map treeB) = s.map treeB ∧ (mpL s zs).length = 2 * s.length
  | [], _ => ⟨rfl, rfl⟩
  | x :: s, h => by
    obtain ⟨v, hv⟩ := h x (by simp)
    obtain ⟨i1, i2⟩ := mpL_evens (s := s) fun y hy => h y (List.mem_cons_of_mem _ hy)
    have e : mpL (x :: s) zs = x :: v :: mpL s zs := by
      show inn x zs ++ _ = _
      rw [hv]; rfl
    rw [e]
    refine ⟨?_, by rw [List.length_cons, List.length_cons, List.length_cons, i2]; omega⟩
    show treeB x :: evens ((mpL s zs).map treeB) = _
    rw [i1]; rfl
theorem map_same (ks vs : List ByteArray) : mapP ks vs = mapM ks vs := by
  by_cases h : ks.length = vs.length ∧ ks.all (valB 32) = true ∧ ks.Nodup
  · obtain ⟨h1, h2, h3⟩ := h
    have hlen := (sortM_nodup (l := ks)).2 h3
    unfold mapP
    rw [if_pos ⟨h1, h2, h3⟩]
    cases hv : vs.all (valB 32) with
    | false =>
      have hM : mapM ks vs = ⟨#[]⟩ := by unfold mapM; rw [if_neg (fun q => by rw [hv] at q; cases q.2.2.1)]
      obtain ⟨v, hvm, hv2⟩ := all_false hv
      obtain ⟨j, hj, hjv⟩ := List.mem_iff_getElem.1 hvm
      have hjk : j < ks.length := by omega
      have hmem : v ∈ mpL (sortM ks) (ks.zip vs) := by
        unfold mpL inn
        refine List.mem_flatMap.2 ⟨ks[j], sortM_mem.2 (List.getElem_mem hjk), List.mem_flatMap.2 ⟨(ks[j], v), List.mem_filter.2 ⟨?_, by simp⟩, by simp⟩⟩
        exact List.mem_iff_getElem.2 ⟨j, by rw [List.length_zip]; omega, by rw [List.getElem_zip, hjv]⟩
      have h31 : valB 31 v = false := by
        cases hh : valB 31 v with
        | false => rfl
        | true => rw [valB_le (by decide) hh] at hv2; cases hv2
      rw [hM]
      exact compB_bad hmem h31
    | true =>
      unfold mapM
      rw [if_pos ⟨h1, h2, hv, hlen⟩]
      refine mk_same (by decide) fun h31 => ?_
      have hz := mpL_evens (zs := ks.zip vs) (s := sortM ks) fun x hx => inn_one h3 h1 (sortM_mem.1 hx)
      have hks : ∀ s ∈ sortM ks, valB 31 s = true := fun x hx => by
        refine h31 x ?_
        obtain ⟨v, hv⟩ := inn_one h3 h1 (sortM_mem.1 hx)
        unfold mpL
        exact List.mem_flatMap.2 ⟨x, hx, by rw [hv]; simp⟩
      unfold parted ascOK
      rw [headL_ne (by decide) (by decide) (by decide), hz.1]
      unfold countOK
      rw [List.length_map, hz.2]
      simp [asc_tree (d := 31) (by omega) hks (sortM_asc ks)]
  · have hM : mapM ks vs = ⟨#[]⟩ := by
      unfold mapM
      rw [if_neg (fun q => h ⟨q.1, q.2.1, sortM_nodup.1 q.2.2.2⟩)]
    unfold mapP
    rw [if_neg h, hM]

end Go.Proofs.YtdifpemohdnolaaGreat
namespace Go.Proofs.YtdifpemohdnolaaGreat
open VM

/-- the parts of a string that is a value -/
def pt (s : ByteArray) : List ByteArray := if valB 32 s = true then partsB s else []
def isK (k : UInt8) (s : ByteArray) : Bool := valB 32 s && decide ((treeB s).kind = k)
def setM (l : List ByteArray) : ByteArray := mkM 5 (sortM l)
def emp : ByteArray := ⟨#[]⟩
theorem enc_head : ∀ v : V, (enc v)[0]? = some v.kind
  | .int _ => rfl
  | .bool _ => rfl
  | .name _ _ => rfl
  | .comp _ _ => rfl
theorem toB_inj {a b : List UInt8} (h : toB a = toB b) : a = b := by
  have := congrArg bs h
  rwa [bs_toB, bs_toB] at this
theorem isK_valid {k : UInt8} {s : ByteArray} (h : isK k s = true) : valB 32 s = true ∧ (treeB s).kind = k := by
  unfold isK at h
  rw [Bool.and_eq_true, decide_eq_true_eq] at h
  exact h
theorem isK_comp {k : UInt8} (hk : isComp k = true) {s : ByteArray} (h : isK k s = true) : ∃ l, treeB s = .comp k l := by
  obtain ⟨_, h2⟩ := isK_valid h
  cases ht : treeB s with
  | int l => rw [ht] at h2; subst h2; cases hk
  | bool b => rw [ht] at h2; subst h2; cases hk
  | name a b => rw [ht] at h2; subst h2; cases hk
  | comp k' l => rw [ht] at h2; exact ⟨l, by rw [← h2]; rfl⟩
theorem part_len {v : V} : ∀ {l : List V}, v ∈ l → (enc v).length ≤ (encs l).length
  | _ :: _, .head _ => by
    show _ ≤ (enc _ ++ encs _).length
    rw [List.length_append]; omega
  | _ :: _, .tail _ h => by
    have := part_len h
    show _ ≤ (enc _ ++ encs _).length
    rw [List.length_append]; omega
/-- the parts of a compound value -/
theorem pt_comp {k : UInt8} {l : List V} {s : ByteArray} (hv : valB 32 s = true) (ht : treeB s = .comp k l) :
    pt s = (l.map fun v => toB (enc v)) ∧ (∀ u ∈ pt s, valB 31 u = true) ∧ (pt s).map treeB = l ∧ s = encB k (pt s) ∧ 3 + totB (pt s) ≤ 131072 := by
  have hp : pt s = l.map fun v => toB (enc v) := by unfold pt partsB; rw [if_pos hv, ht]
  obtain ⟨t1, t2, t3⟩ := tree_ok hv
  rw [ht] at t1 t2
  have hall := List.all_eq_true.1 (wf_parts t1)
  have hlen : (enc (.comp k l)).length = (encs l).length + 3 := rfl
  have hsz : (bs s).length = s.size := bs_size s
  rw [t2] at hsz
  have h1 : ∀ u ∈ pt s, valB 31 u = true := by
    intro u hu
    rw [hp] at hu
    obtain ⟨v, hv, rfl⟩ := List.mem_map.1 hu
    refine valB_iff.2 ⟨?_, v, bs_toB _, hall v hv⟩
    have := part_len hv
    have e : (toB (enc v)).size = (enc v).length := by rw [← bs_size, bs_toB]
    omega
  have h2 : (pt s).map treeB = l := by
    rw [hp, List.map_map]
    refine (List.map_congr_left fun v hv => ?_).trans (List.map_id _)
    exact tree_of (d := 31) (by decide) (bs_toB _) (hall v hv)
  have h3 : (pt s).map bs = l.map enc := by
    rw [hp, List.map_map]
    exact List.map_congr_left fun v _ => bs_toB _
  have h4 : s = encB k (pt s) := bs_inj (by rw [bs_encB h3, t2])
  refine ⟨hp, h1, h2, h4, ?_⟩
  have := congrArg ByteArray.size h4
  rw [encB_size] at this
  omega
theorem pt_simple {s : ByteArray} (h : ∀ k l, treeB s ≠ .comp k l) : pt s = [] := by
  unfold pt partsB
  split
  · cases ht : treeB s with
    | comp k l => exact absurd ht (h k l)
    | int l => rfl
    | bool b => rfl
    | name a b => rfl
  · rfl
theorem pt_invalid {s : ByteArray} (h : valB 32 s = false) : pt s = [] := by unfold pt; rw [h]; rfl
theorem pt_val (s : ByteArray) : ∀ u ∈ pt s, valB 31 u = true := by
  cases hv : valB 32 s with
  | false => rw [pt_invalid hv]; intro u hu; cases hu
  | true =>
    cases ht : treeB s with
    | comp k l => exact (pt_comp hv ht).2.1
    | int l => rw [pt_simple fun k l' => by rw [ht]; exact fun h => by cases h]; intro u hu; cases hu
    | bool l => rw [pt_simple fun k l' => by rw [ht]; exact fun h => by cases h]; intro u hu; cases hu
    | name a l => rw [pt_simple fun k l' => by rw [ht]; exact fun h => by cases h]; intro u hu; cases hu
theorem pt_val32 (s : ByteArray) : ∀ u ∈ pt s, valB 32 u = true := fun u hu => valB_le (by decide) (pt_val s u hu)
theorem pt_tot (s : ByteArray) : totB (pt s) ≤ 131072 := by
  cases hv : valB 32 s with
  | false => rw [pt_invalid hv]; exact Nat.zero_le _
  | true =>
    cases ht : treeB s with
    | comp k l => have := (pt_comp hv ht).2.2.2.2; omega
    | int l => rw [pt_simple fun k l' => by rw [ht]; exact fun h => by cases h]; exact Nat.zero_le _
    | bool l => rw [pt_simple fun k l' => by rw [ht]; exact fun h => by cases h]; exact Nat.zero_le _
    | name a l => rw [pt_simple fun k l' => by rw [ht]; exact fun h => by cases h]; exact Nat.zero_le _
theorem pt_len (s : ByteArray) : (pt s).length ≤ 65536 := by
  have h1 := pt_tot s
  have h2 := tot_two (pt_val s)
  omega
theorem pt_size (s : ByteArray) : ∀ u ∈ pt s, u.size ≤ 131072 := fun u hu => (tree_val (Nat.le_refl _) (pt_val32 s u hu)).2.2
theorem pt_size48 (s : ByteArray) : ∀ u ∈ pt s, u.size ≤ 281474976710656 := fun u hu => by have := pt_size s u hu; omega
/-- a set -/
theorem pt_set {s : ByteArray} (h : isK 5 s = true) : Asc (pt s) ∧ mkM 5 (pt s) = s := by
  obtain ⟨l, ht⟩ := isK_comp (by decide) h
  have hv := (isK_valid h).1
  obtain ⟨h1, h2, h3, h4, h5⟩ := pt_comp hv ht
  have t1 := (tree_ok hv).1
  rw [ht] at t1
  refine ⟨asc_of_tree (d := 31) (by decide) h2 ?_, ?_⟩
  · rw [h3]
    unfold wf parted ascOK at t1
    simp only [Bool.and_eq_true, decide_eq_true_eq] at t1
    have := t1.2.2.2.2.2
    simpa using this
  · rw [mkM_val (pt_val32 s), ← h4, if_pos hv]
theorem setM_self {s : ByteArray} (h : isK 5 s = true) : setM (pt s) = s := by
  unfold setM
  rw [sortM_self (pt_set h).1, (pt_set h).2]
theorem setM_congr {l m : List ByteArray} (h : sortM l = sortM m) : setM l = setM m := by unfold setM; rw [h]
theorem sortM_congr {l m : List ByteArray} (h : ∀ u, u ∈ l ↔ u ∈ m) : sortM l = sortM m :=
  asc_unique (sortM_asc l) (sortM_asc m) fun u => by rw [sortM_mem, sortM_mem]; exact h u
theorem mkM_ne {k : UInt8} {ps : List ByteArray} (h : mkM k ps ≠ ⟨#[]⟩) : (∀ s ∈ ps, valB 32 s = true) ∧ valB 32 (encB k ps) = true ∧ mkM k ps = encB k ps := by
  unfold mkM at h ⊢
  split at h
  · rename_i q
    rw [if_pos q]
    exact ⟨List.all_eq_true.1 q.1, q.2, rfl⟩
  · exact absurd rfl h
/-- what a set that has been made is -/
theorem made {k : UInt8} (hk : isComp k = true) {ps : List ByteArray} (h : mkM k ps ≠ ⟨#[]⟩) : isK k (mkM k ps) = true ∧ pt (mkM k ps) = ps ∧ (∀ s ∈ ps, valB 31 s = true) := by
  obtain ⟨h1, h2, h3⟩ := mkM_ne h
  obtain ⟨h4, h5, h6⟩ := mkM_parts hk h1 h2
  obtain ⟨h7, h8⟩ := parts_encB (d := 31) (Nat.le_refl _) h4 hk h5 h6
  rw [h3]
  refine ⟨?_, ?_, h4⟩
  · unfold isK
    rw [h2, h7]
    simp [V.kind]
  · rw [(pt_comp h2 h7).1, h8]
theorem made_set {l : List ByteArray} (h : setM l ≠ ⟨#[]⟩) : isK 5 (setM l) = true ∧ pt (setM l) = sortM l ∧ (∀ s ∈ l, valB 31 s = true) := by
  obtain ⟨h1, h2, h3⟩ := made (by decide) h
  exact ⟨h1, h2, fun s hs => h3 s (sortM_mem.2 hs)⟩
theorem setM_ok {d : Nat} (hd : d ≤ 31) {l : List ByteArray} (h : ∀ s ∈ l, valB d s = true) (hz : 3 + totB (sortM l) ≤ 131072) : valB (d + 1) (setM l) = true ∧ setM l ≠ ⟨#[]⟩ := by
  have hs : ∀ s ∈ sortM l, valB d s = true := fun s q => h s (sortM_mem.1 q)
  have h1 := enc_comp_val (d := d) hd hs (k := 5) (by decide) (parted_set (by omega) hs (sortM_asc l)) hz
  have e : setM l = encB 5 (sortM l) := by
    unfold setM
    rw [mkM_val (fun s q => valB_le (by omega) (hs s q)), if_pos (valB_le (by omega) h1.1)]
  rw [e]
  exact ⟨h1.1, fun q => by have := congrArg ByteArray.size q; rw [encB_size] at this; have : 3 + totB (sortM l) = 0 := this; omega⟩
/-! results: a value and an error -/
/-- the set of a list, or ErrOverflow -/
def bnd (l : List ByteArray) : ByteArray × Int := if (sortM l).length > 4096 ∨ setM l = ⟨#[]⟩ then (⟨#[]⟩, 9) else (setM l, 0)
theorem bnd_congr {l m : List ByteArray} (h : sortM l = sortM m) : bnd l = bnd m := by unfold bnd; rw [h, setM_congr h]
theorem insM_tot {a : ByteArray} : ∀ {L : List ByteArray}, a ∉ L → totB (insM a L) = a.size + totB L
  | [], _ => by unfold insM; rw [totB_cons]
  | b :: L, h => by
    unfold insM
    split
    · rw [totB_cons]
    · split
      · exact absurd (by simp_all) h
      · rw [totB_cons, totB_cons, insM_tot (fun q => h (List.mem_cons_of_mem _ q))]; omega
theorem sortM_tot : ∀ {l : List ByteArray}, l.Nodup → totB (sortM l) = totB l
  | [], _ => rfl
  | a :: l, h => by
    obtain ⟨h1, h2⟩ := List.nodup_cons.1 h
    show totB (insM a (sortM l)) = _
    rw [insM_tot (fun q => h1 (sortM_mem.1 q)), sortM_tot h2, totB_cons]
/-- what is left of a list of different values where its set is made: it is as long -/
theorem bnd_over {l : List ByteArray} (h : (∀ x ∈ l, x ≠ ⟨#[]⟩) → l.Nodup) (h2 : (⟨#[]⟩ : ByteArray) ∈ l ∨ 4096 < l.length ∨ 131072 < totB l) : bnd l = (⟨#[]⟩, 9) := by
  unfold bnd
  by_cases he : (⟨#[]⟩ : ByteArray) ∈ l
  · refine if_pos (.inr (mkM_bad (s := ⟨#[]⟩) (sortM_mem.2 he) ?_))
    cases hv : valB 32 ⟨#[]⟩ with
    | false => rfl
    | true => have := val_two hv; exact absurd this (by decide)
  · have hn := h (fun x hx q => he (by rw [← q]; exact hx))
    rcases h2 with h2 | h2 | h2
    · exact absurd h2 he
    · exact if_pos (.inl (by rw [sortM_nodup.2 hn]; exact h2))
    · refine if_pos (.inr (Decidable.byContradiction fun q => ?_))
      obtain ⟨h3, h4, h5⟩ := mkM_ne q
      have := (tree_val (Nat.le_refl _) h4).2.2
      rw [encB_size, sortM_tot hn] at this
      omega
theorem bnd_end {l : List ByteArray} (h : (∀ x ∈ l, x ≠ ⟨#[]⟩) → l.Nodup) (h0 : (⟨#[]⟩ : ByteArray) ∉ l) (h1 : l.length ≤ 4096) : bnd l = if setM l = ⟨#[]⟩ then (⟨#[]⟩, 9) else (setM l, 0) := by
  unfold bnd
  rw [sortM_nodup.2 (h fun x hx q => h0 (by rw [← q]; exact hx))]
  by_cases q : setM l = ⟨#[]⟩
  · rw [if_pos (.inr q), if_pos q]
  · rw [if_neg (by rintro (h | h); omega; exact q h), if_neg q]
theorem tot_le_of_mem {x : ByteArray} : ∀ {l : List ByteArray}, x ∈ l → x.size ≤ totB l
  | _ :: _, .head _ => by rw [totB_cons]; omega
  | _ :: _, .tail _ h => by have := tot_le_of_mem h; rw [totB_cons]; omega
theorem totB_app (a b : List ByteArray) : totB (a ++ b) = totB a + totB b := by unfold totB; simp
theorem filter_asc {l : List ByteArray} (p : ByteArray → Bool) (h : Asc l) : Asc (l.filter p) := List.Pairwise.filter _ h

end Go.Proofs.YtdifpemohdnolaaGreat
namespace Go.Proofs.YtdifpemohdnolaaGreat
open Go.RowKit VM

/-- a call has made a list of these strings -/
def RowR (w : World) (ps : List ByteArray) (e : Ending) (w' : World) : Prop := ∃ (B : Option Addr) (cb n : Nat), e = .returned (.slice B n cb) ∧ n = ps.length ∧ w'.ownsRow w.heap.size 23 1 (.slice B n cb) n (ps.map Value.string) ∧ Below w.heap.size w w'
theorem kind_isK {s : ByteArray} {k : UInt8} (hk : k ≠ 0) : ((kindM s) == (k.toNat : Int)) = isK k s := by
  unfold kindM isK
  cases hv : valB 32 s with
  | false =>
    have h0 : k.toNat ≠ 0 := fun q => hk (UInt8.toNat_inj.1 q)
    simp; omega
  | true =>
    rw [if_pos rfl, u8_int]; simp
theorem pkindM_any (s : ByteArray) (hs : s.size ≤ 281474976710656) (w : World) :
    Calls Tryz.prog 90 #[.string s] w fun e w' => e = .returned (.int .i64 (kindM s)) ∧ Below w.heap.size w w' := by
  cases hv : valB 32 s with
  | true =>
    have h := pkind_any s (treeB s).kind hs hv (by rw [(tree_ok hv).2.1]; exact enc_head _) w
    unfold kindM
    rw [if_pos hv]
    exact h
  | false =>
    have HM : Hid (kindM s = 0) := Lib.hid (by unfold kindM; rw [hv]; rfl)
    have HV := Lib.hid (fun w => valid_any s hs w)
    rw [hv] at HV
    clear hv
    go_enter Tryz.func90, Tryz.ntmps90
    go_wp2_with fail
    refine (HV.out _).mono ?_
    rintro e w1 ⟨rfl, hb1⟩
    have HB1 := hide hb1
    clear hb1
    go_wp2_with fail
    go_ret
    exact ⟨by rw [HM.out]; rfl, unhide HB1⟩
set_option maxRecDepth 100000 in
set_option maxHeartbeats 3200000 in
theorem pparts_any (s : ByteArray) (hs : s.size ≤ 281474976710656) (w : World) :
    Calls Tryz.prog 92 #[.string s] w (RowR w (pt s)) := by
  cases hv : valB 32 s with
  | false =>
    have HM : Hid (pt s = []) := Lib.hid (pt_invalid hv)
    have HV := Lib.hid (fun w => valid_any s hs w)
    rw [hv] at HV
    clear hv
    go_enter Tryz.func92, Tryz.ntmps92
    go_wp2_with fail
    refine (HV.out _).mono ?_
    rintro e w1 ⟨rfl, hb1⟩
    have HB1 := hide hb1
    clear hb1
    go_wp2_with fail
    go_ret
    exact ⟨_, _, 0, rfl, by rw [HM.out]; rfl, by rw [HM.out]; exact World.ownsRow_nil _ _ _ _, unhide HB1⟩
  | true =>
    by_cases hc : ∃ k l, treeB s = .comp k l
    · obtain ⟨k, l, ht⟩ := hc
      refine (pparts_comp s k l hv ht w).mono ?_
      rintro e w' ⟨B, cb, n, rfl, rfl, hO, hB⟩
      have e1 := (pt_comp hv ht).1
      exact ⟨B, cb, _, rfl, by rw [e1, List.length_map], by rw [e1]; exact hO, hB⟩
    · have hc' : ∀ k l, treeB s ≠ .comp k l := fun k l q => hc ⟨k, l, q⟩
      have HM : Hid (pt s = []) := Lib.hid (pt_simple hc')
      have HV := Lib.hid (fun w => valid_any s hs w)
      rw [hv] at HV
      have ht := tree_ok hv
      have hsk : simpleB (treeB s).kind = true := by
        cases hq : treeB s with
        | comp k l => exact absurd hq (hc' k l)
        | int l => rfl
        | bool l => rfl
        | name a l => rfl
      have h1 : 0 < s.size := by have := val_two hv; omega
      have e1 : s[0]'h1 = (treeB s).kind := by
        have := bs_get s 0 h1
        rw [ht.2.1, enc_head] at this
        exact (Option.some.inj this).symm
      have HS := Lib.hid (fun w => simple_any (treeB s).kind w)
      rw [hsk] at HS
      generalize (treeB s).kind = k at *
      have wk : wrap64 (k.toNat : Int) = (k.toNat : Int) := IntWalk.wrap64_in _ (by have := k.toNat_lt; omega)
      clear hv hc hc' ht hsk
      go_enter Tryz.func92, Tryz.ntmps92
      go_wp2_with fail
      refine (HV.out _).mono ?_
      rintro e w1 ⟨rfl, hb1⟩
      have HB1 := hide hb1
      clear hb1
      go_wp2_with fail
      refine (HS.out _).mono ?_
      rintro e w2 ⟨rfl, rfl⟩
      go_wp2_with fail
      go_ret
      exact ⟨_, _, 0, rfl, by rw [HM.out]; rfl, by rw [HM.out]; exact World.ownsRow_nil _ _ _ _, unhide HB1⟩
set_option maxRecDepth 100000 in
set_option maxHeartbeats 3200000 in
theorem rpartsO_any (s : ByteArray) (hs : s.size ≤ 281474976710656) (w : World) :
    Calls Tryz.prog 63 #[.string s] w (RowR w (pt s)) := by
  cases hv : valB 32 s with
  | false =>
    have HM : Hid (pt s = []) := Lib.hid (pt_invalid hv)
    have HV := Lib.hid (fun w => rvalid_any s hs w)
    rw [hv] at HV
    clear hv
    go_enter Tryz.func63, Tryz.ntmps63
    go_wp2_with fail
    refine (HV.out _).mono ?_
    rintro e w1 ⟨rfl, hb1⟩
    have HB1 := hide hb1
    clear hb1
    go_wp2_with fail
    go_ret
    exact ⟨_, _, 0, rfl, by rw [HM.out]; rfl, by rw [HM.out]; exact World.ownsRow_nil _ _ _ _, unhide HB1⟩
  | true =>
    have ht := tree_val (Nat.le_refl _) hv
    have HPT : Hid (∀ ps, PartsOf (treeB s) ps → ps = pt s) := Lib.hid (fun ps hp => by
      cases hq : treeB s with
      | comp k l =>
        rw [hq] at hp
        have hp : ps.map bs = l.map enc := hp
        rw [(pt_comp hv hq).1]
        have := congrArg (List.map toB) hp
        rw [map_toB, List.map_map] at this
        exact this
      | int l => rw [hq] at hp; rw [pt_simple (fun k l' => by rw [hq]; exact fun h => by cases h)]; exact hp
      | bool l => rw [hq] at hp; rw [pt_simple (fun k l' => by rw [hq]; exact fun h => by cases h)]; exact hp
      | name a l => rw [hq] at hp; rw [pt_simple (fun k l' => by rw [hq]; exact fun h => by cases h)]; exact hp)
    have HV := Lib.hid (fun w => rvalid_any s hs w)
    rw [hv] at HV
    have HW := Lib.hid (fun w => walk_plain 32 (by decide) s w (by omega))
    have e : decC false 32 (bs s) = some (treeB s, []) := by
      have := decC_of false 32 (treeB s) [] ht.1
      rwa [List.append_nil, ← ht.2.1] at this
    rw [e] at HW
    generalize pt s = ps0 at *
    generalize treeB s = v at *
    clear hv ht e
    go_enter Tryz.func63, Tryz.ntmps63
    go_wp2_with fail
    refine (HV.out _).mono ?_
    rintro e w1 ⟨rfl, hb1⟩
    have HB1 := hide hb1
    clear hb1
    go_wp2_with fail
    refine (HW.out _).mono ?_
    rintro e w2 ⟨A, c, ps, dd, rfl, -, hO, hp, hb2⟩
    have HB2 := hide ((unhide HB1).trans (hb2.mono (unhide HB1).size))
    have HO := hide (owns_base hO (unhide HB1).size)
    obtain rfl := HPT.out ps hp
    clear hb2 hO hp
    go_wp2_with fail
    go_ret
    exact ⟨A, c, _, rfl, rfl, unhide HO, unhide HB2⟩

end Go.Proofs.YtdifpemohdnolaaGreat
