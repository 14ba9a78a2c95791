/- Trees: what is built is matched with the same variables, what is matched is built again, and the reference's build. Pure. No conditions. -/
import Derived.Test.YtdifpemohdnolaaGreatPuG
namespace Go.Proofs.YtdifpemohdnolaaGreat
open Go.RowKit VM

theorem empty_bad : valB 32 ⟨#[]⟩ = false := by decide
theorem made32 {k : UInt8} (hk : isComp k = true) {l : List ByteArray} (h : valB 32 (mkM k l) = true) : isK k (mkM k l) = true ∧ pt (mkM k l) = l ∧ (∀ s ∈ l, valB 31 s = true) :=
  made hk fun e => by rw [e, empty_bad] at h; cases h
theorem kind_of {k : UInt8} (hk : k ≠ 0) {s : ByteArray} (h : isK k s = true) : kindM s = (k.toNat : Int) := by
  have := kind_isK (s := s) hk
  rw [h] at this
  exact beq_iff_eq.1 this
theorem of_kind {k : UInt8} (hk : k ≠ 0) {s : ByteArray} (h : kindM s = (k.toNat : Int)) : isK k s = true := by
  rw [← kind_isK hk, h]
  exact beq_self_eq_true _
theorem comp_self {k : UInt8} (hk : isComp k = true) {s : ByteArray} (h : isK k s = true) : mkM k (pt s) = s := by
  obtain ⟨l, ht⟩ := isK_comp hk h
  have hv := (isK_valid h).1
  obtain ⟨h1, h2, h3, h4, h5⟩ := pt_comp hv ht
  rw [mkM_val (pt_val32 s), ← h4, if_pos hv]
theorem up32 {l : List ByteArray} (h : ∀ s ∈ l, valB 31 s = true) : ∀ s ∈ l, valB 32 s = true := fun s hs => valB_le (by decide) (h s hs)
theorem tup_same {l : List ByteArray} (h1 : 2 ≤ l.length) (h2 : l.length ≤ 8) : tupP l = mkM 3 l := by
  unfold tupP
  rw [if_pos ⟨h1, h2⟩]
  refine mk_same (by decide) fun _ => ?_
  unfold parted countOK ascOK
  rw [headL_ne (by decide) (by decide) (by decide)]
  simp [h1, h2]
theorem sort_short {l : List ByteArray} (h : l.length ≤ 1) : sortM l = l := by
  match l, h with
  | [], _ => rfl
  | [a], _ => rfl
theorem nameB_inj {n m : Nat} (hn : n < 65536) (hm : m < 65536) (h : nameB n = nameB m) : n = m := by
  have e := congrArg treeB h
  rw [tree_name, tree_name] at e
  injection e with e1 e2
  have f1 := congrArg UInt8.toNat e1
  have f2 := congrArg UInt8.toNat e2
  simp at f1 f2
  omega
theorem nameI_ok {n : Int} (h : valB 32 (nameI n) = true) : 0 ≤ n ∧ n ≤ 65535 ∧ nameI n = nameB n.toNat := by
  unfold nameI at h ⊢
  split at h
  · rename_i q; exact ⟨q.1, q.2, if_pos q⟩
  · rw [empty_bad] at h; cases h
/-- what join makes of one that is permitted, in the reference's words -/
def refJ (c : Cd) (l : List ByteArray) : ByteArray :=
  if c.1 = 32 then intB c.2.1
  else if c.1 = 33 then boolB (decide (c.2.1 = 1))
  else if c.1 = 34 then mkM 3 l
  else if c.1 = 35 then mkM 4 l
  else if c.1 = 37 then mkM 5 (sortM l)
  else if c.1 = 38 then (if l.length ≤ 8 then mkM 7 (nameI c.2.1 :: l) else ⟨#[]⟩)
  else if c.1 = 36 then (if kindM (l.getD c.2.1.toNat ⟨#[]⟩) = 4 then mkM 4 (l.take c.2.1.toNat ++ pt (l.getD c.2.1.toNat ⟨#[]⟩) ++ l.drop (c.2.1.toNat + 1)) else ⟨#[]⟩)
  else ⟨#[]⟩
theorem dot_same (n : Int) (l : List ByteArray) : dotP n l = if l.length ≤ 8 then mkM 7 (nameI n :: l) else ⟨#[]⟩ := by
  unfold dotP
  by_cases h8 : l.length ≤ 8
  · rw [if_pos h8, if_pos h8]
    refine mk_same (by decide) fun h => ?_
    obtain ⟨n1, n2, n3⟩ := nameI_ok (valB_le (by decide) (h _ (List.mem_cons_self ..)))
    unfold parted countOK ascOK
    rw [List.map_cons, n3, tree_name]
    simp [headL, headOK]
    omega
  · rw [if_neg h8, if_neg h8]
theorem join_ref {c : Cd} {l : List ByteArray} (hp : permL c = true) (hl : c.2.2 = (l.length : Int)) : joinR c l = refJ c l := by
  obtain ⟨o, n, kids⟩ := c
  unfold joinR refJ
  unfold permL at hp
  simp only at hp hl ⊢
  by_cases h32 : o = 32
  · rw [if_pos h32, if_pos h32]
  rw [if_neg h32, if_neg h32]
  by_cases h33 : o = 33
  · rw [if_pos h33, if_pos h33]
  rw [if_neg h33, if_neg h33]
  by_cases h34 : o = 34
  · rw [if_pos h34, if_pos h34]
    subst h34
    simp at hp
    exact tup_same (by omega) (by omega)
  rw [if_neg h34, if_neg h34]
  by_cases h35 : o = 35
  · rw [if_pos h35, if_pos h35, seq_same]
  rw [if_neg h35, if_neg h35]
  by_cases h37 : o = 37
  · rw [if_pos h37, if_pos h37, set_same]
  rw [if_neg h37, if_neg h37]
  by_cases h38 : o = 38
  · rw [if_pos h38, if_pos h38]
    exact dot_same n l
  rw [if_neg h38, if_neg h38]
  by_cases h36 : o = 36
  · rw [if_pos h36, if_pos h36]
    unfold insertR
    rw [seq_same]
  rw [if_neg h36, if_neg h36]
theorem cat_at {l : List ByteArray} {n : Nat} (hn : n < l.length) : l = l.take n ++ [l.getD n ⟨#[]⟩] ++ l.drop (n + 1) := by
  have e : l.getD n ⟨#[]⟩ = l[n] := by simp [List.getD, hn]
  rw [e, List.append_assoc, List.singleton_append, List.getElem_cons_drop, List.take_append_drop]
theorem join_split {c : Cd} {l : List ByteArray} (hp : permL c = true) (hl : c.2.2 = (l.length : Int)) (h30 : c.1 ≠ 30) (hv : valB 32 (joinR c l) = true) : (∀ s ∈ l, valB 32 s = true) ∧ splitR c (joinR c l) = some l := by
  rw [join_ref hp hl] at hv ⊢
  obtain ⟨o, n, kids⟩ := c
  unfold refJ at hv ⊢
  unfold splitR
  unfold permL at hp
  simp only at hp hl hv h30 ⊢
  have nil_of : kids = 0 → l = [] := fun h => List.eq_nil_of_length_eq_zero (by omega)
  by_cases h32 : o = 32
  · subst h32
    simp at hp hv ⊢
    obtain rfl := nil_of hp
    exact ⟨fun s h => (by cases h), rfl⟩
  by_cases h33 : o = 33
  · subst h33
    simp at hp hv ⊢
    obtain rfl := nil_of hp.2
    exact ⟨fun s h => (by cases h), rfl⟩
  by_cases h34 : o = 34
  · subst h34
    simp at hp hv ⊢
    obtain ⟨k1, k2, k3⟩ := made32 (by decide) hv
    refine ⟨up32 k3, ?_⟩
    unfold exactR
    rw [kind_of (by decide) k1, k2, if_pos ⟨rfl, hl.symm⟩]
  by_cases h35 : o = 35
  · subst h35
    simp at hp hv ⊢
    obtain ⟨k1, k2, k3⟩ := made32 (by decide) hv
    refine ⟨up32 k3, ?_⟩
    unfold exactR
    rw [kind_of (by decide) k1, k2, if_pos ⟨rfl, hl.symm⟩]
  by_cases h37 : o = 37
  · subst h37
    simp at hp hv ⊢
    rw [sort_short (by omega)] at hv ⊢
    obtain ⟨k1, k2, k3⟩ := made32 (by decide) hv
    refine ⟨up32 k3, ?_⟩
    unfold exactR
    rw [kind_of (by decide) k1, k2, if_pos ⟨rfl, hl.symm⟩]
  by_cases h38 : o = 38
  · subst h38
    simp at hp hv ⊢
    by_cases h8 : l.length ≤ 8
    · rw [if_pos h8] at hv ⊢
      obtain ⟨k1, k2, k3⟩ := made32 (by decide) hv
      have k4 := up32 k3
      obtain ⟨n1, n2, n3⟩ := nameI_ok (k4 _ (List.mem_cons_self ..))
      refine ⟨fun s hs => k4 s (List.mem_cons_of_mem _ hs), ?_⟩
      have hk7 := kind_of (by decide) k1
      obtain ⟨ps, q1, q2⟩ := dot_head (v := mkM 7 (nameI n :: l)) hk7
      have q3 : nameB n.toNat = nameB (dotN (mkM 7 (nameI n :: l))) := n3.symm.trans (List.cons.inj (k2.symm.trans q1)).1
      have q5 := nameB_inj (by omega) q2 q3
      unfold fieldsR
      rw [hk7, k2, if_pos ⟨rfl, by simp; omega, by omega⟩]
      rfl
    · rw [if_neg h8, empty_bad] at hv; cases hv
  by_cases h36 : o = 36
  · subst h36
    simp at hp hv ⊢
    have hn : n.toNat < l.length := by omega
    split at hv
    · rename_i hk
      rw [if_pos hk]
      have hc := cat_at hn
      obtain ⟨x, hx⟩ : ∃ x, x = l.getD n.toNat ⟨#[]⟩ := ⟨_, rfl⟩
      have hx2 : l[n.toNat]?.getD ⟨#[]⟩ = x := by rw [hx]; rfl
      rw [hx2] at hv hk ⊢
      rw [← hx] at hc
      obtain ⟨k1, k2, k3⟩ := made32 (by decide) hv
      have k4 := up32 k3
      have hxk : isK 4 x = true := of_kind (by decide) hk
      have hxs := comp_self (k := 4) (by decide) hxk
      have ht : (l.take n.toNat).length = n.toNat := by rw [List.length_take]; omega
      have hd : (l.drop (n.toNat + 1)).length = l.length - (n.toNat + 1) := by rw [List.length_drop]
      refine ⟨fun s hs => ?_, ?_⟩
      · rw [hc] at hs
        rcases List.mem_append.1 hs with hs | hs
        · rcases List.mem_append.1 hs with hs | hs
          · exact k4 s (by simp [hs])
          · simp at hs; subst hs; exact (isK_valid hxk).1
        · exact k4 s (by simp [hs])
      · unfold aroundR
        rw [kind_of (by decide) k1, k2.trans (List.append_assoc ..).symm]
        have hlen : (l.take n.toNat ++ pt x ++ l.drop (n.toNat + 1)).length = n.toNat + (pt x).length + (l.length - (n.toNat + 1)) := by rw [List.length_append, List.length_append, ht, hd]
        have hnk : kids.toNat - 1 = l.length - 1 := by omega
        rw [hnk, if_pos ⟨rfl, by rw [hlen]; omega⟩, hlen]
        have e1 : n.toNat + (pt x).length + (l.length - (n.toNat + 1)) - (l.length - 1 - n.toNat) = n.toNat + (pt x).length := by omega
        rw [e1]
        have e2 : (l.take n.toNat ++ pt x).length = n.toNat + (pt x).length := by rw [List.length_append, ht]
        rw [List.take_left' e2, List.drop_left' e2, List.drop_left' ht, List.append_assoc (l.take n.toNat) (pt x), List.take_left' ht, seq_same, hxs]
        exact congrArg some hc.symm
    · rw [empty_bad] at hv; cases hv
  · exfalso
    rw [if_neg h32, if_neg h33, if_neg h34, if_neg h35, if_neg h37, if_neg h38, if_neg h36, empty_bad] at hv
    cases hv
theorem tot_sub {a b : List ByteArray} (h : a.Sublist b) : totB a ≤ totB b := by
  induction h with
  | slnil => exact Nat.le_refl _
  | cons x _ ih => rw [totB_cons]; omega
  | cons_cons x _ ih => rw [totB_cons, totB_cons]; omega
/-- the values of the children are valid -/
theorem split_val {c : Cd} {v : ByteArray} {l : List ByteArray} (hv : valB 32 v = true) (h : splitR c v = some l) : ∀ s ∈ l, valB 32 s = true := by
  obtain ⟨o, n, kids⟩ := c
  unfold splitR at h
  simp only at h
  have ex : ∀ q, exactR q kids v = some l → ∀ s ∈ l, valB 32 s = true := by
    intro q hq
    unfold exactR at hq
    split at hq <;> cases hq
    exact pt_val32 v
  repeat' split at h
  all_goals first
    | (cases h; done)
    | (exact ex _ h)
    | (cases h; intro u hu; cases hu; done)
    | (cases h; intro u hu; simp at hu; subst hu; exact hv)
    | skip
  · unfold aroundR at h
    split at h
    · rename_i hc
      cases h
      intro s hs
      rcases List.mem_append.1 hs with hs | hs
      · rcases List.mem_append.1 hs with hs | hs
        · exact pt_val32 v s (List.mem_of_mem_take hs)
        · simp at hs
          subst hs
          rw [seq_same]
          have hk : isK 4 v = true := of_kind (by decide) hc.1
          have hm : valB 32 (mkM 4 (pt v)) = true := by rw [comp_self (by decide) hk]; exact hv
          obtain ⟨_, h2, h3⟩ := mkM_ne (k := 4) (ps := pt v) fun e => by rw [e, empty_bad] at hm; cases hm
          obtain ⟨_, _, h6⟩ := mkM_parts (by decide) (pt_val32 v) h2
          refine (seq_facts (ps := ((pt v).take ((pt v).length - (kids.toNat - 1 - n.toNat))).drop n.toNat) (fun s hs => pt_val v s (List.mem_of_mem_take (List.mem_of_mem_drop hs))) ?_).1
          exact Nat.le_trans (Nat.add_le_add_left (tot_sub ((List.drop_sublist _ _).trans (List.take_sublist _ _))) 3) h6
      · exact pt_val32 v s (List.mem_of_mem_drop hs)
    · cases h
  · unfold fieldsR at h
    split at h <;> cases h
    exact fun u hu => pt_val32 v u (List.mem_of_mem_tail hu)
theorem split_join {c : Cd} {v : ByteArray} {l : List ByteArray} (hp : permL c = true) (_hv : valB 32 v = true) (h : splitR c v = some l) (h30 : c.1 ≠ 30) (hj : valB 32 (joinR c l) = true) : joinR c l = v := by
  have hl : c.2.2 = (l.length : Int) := (splitR_len hp h).symm
  rw [join_ref hp hl] at hj ⊢
  obtain ⟨o, n, kids⟩ := c
  unfold splitR at h
  unfold refJ at hj ⊢
  unfold permL at hp
  simp only at hp hl hj h h30 ⊢
  have ex : ∀ q : UInt8, q ≠ 0 → isComp q = true → exactR (q.toNat : Int) kids v = some l → mkM q l = v := by
    intro q hq0 hqc hq
    unfold exactR at hq
    split at hq
    · rename_i hc
      cases hq
      exact comp_self hqc (of_kind hq0 hc.1)
    · cases hq
  by_cases h32 : o = 32
  · subst h32
    simp at h ⊢
    exact h.1.symm
  by_cases h33 : o = 33
  · subst h33
    simp at h ⊢
    exact h.1.symm
  by_cases h34 : o = 34
  · subst h34
    simp at h ⊢
    exact ex 3 (by decide) (by decide) h
  by_cases h35 : o = 35
  · subst h35
    simp at h ⊢
    exact ex 4 (by decide) (by decide) h
  by_cases h37 : o = 37
  · subst h37
    simp at h hp ⊢
    rw [sort_short (by omega)]
    exact ex 5 (by decide) (by decide) h
  by_cases h38 : o = 38
  · subst h38
    simp at h hj ⊢
    unfold fieldsR at h
    split at h
    · rename_i hc
      cases h
      obtain ⟨ps, q1, q2⟩ := dot_head hc.1
      have e : nameI n :: (pt v).tail = pt v := by
        rw [q1, ← hc.2.2]
        show nameI ((dotN v : Nat) : Int) :: ps = _
        rw [nameI_nat (by omega)]
      split at hj
      · rename_i h8
        rw [if_pos h8, e]
        exact comp_self (k := 7) (by decide) (of_kind (by decide) hc.1)
      · rw [empty_bad] at hj; cases hj
    · cases h
  by_cases h36 : o = 36
  · subst h36
    simp at h hp hj ⊢
    unfold aroundR at h
    split at h
    · rename_i hc
      obtain ⟨fi, hfi⟩ : ∃ fi, fi = n.toNat := ⟨_, rfl⟩
      obtain ⟨b, hb⟩ : ∃ b, b = (pt v).length - (kids.toNat - 1 - n.toNat) := ⟨_, rfl⟩
      rw [← hb, ← hfi] at h
      rw [← hfi] at hj ⊢
      have hfb : fi ≤ b := by have := hc.2; omega
      have hbl : b ≤ (pt v).length := by omega
      obtain ⟨mid, hmid⟩ : ∃ mid, mid = ((pt v).take b).drop fi := ⟨_, rfl⟩
      rw [← hmid] at h
      have ht : ((pt v).take fi).length = fi := by rw [List.length_take]; omega
      have hget : l[fi]?.getD ⟨#[]⟩ = mkP 4 mid := by
        rw [← Option.some.inj h, List.append_assoc, List.getElem?_append_right (by omega), ht, Nat.sub_self]
        rfl
      have htake : l.take fi = (pt v).take fi := by rw [← Option.some.inj h, List.append_assoc, List.take_left' ht]
      have hdrop : l.drop (fi + 1) = (pt v).drop b := by
        rw [← Option.some.inj h]
        exact List.drop_left' (by rw [List.length_append, ht]; rfl)
      rw [hget, htake, hdrop] at hj ⊢
      split at hj
      · rename_i hk
        rw [if_pos hk]
        have hkm : isK 4 (mkM 4 mid) = true := by rw [← seq_same]; exact of_kind (by decide) hk
        have hpm : pt (mkP 4 mid) = mid := by rw [seq_same]; exact (made32 (by decide) (isK_valid hkm).1).2.1
        have hall : (pt v).take fi ++ mid ++ (pt v).drop b = pt v := by
          rw [hmid]
          have e1 : (pt v).take fi = ((pt v).take b).take fi := by rw [List.take_take, Nat.min_eq_left hfb]
          rw [e1, List.take_append_drop, List.take_append_drop]
        have hall2 : (pt v).take fi ++ (mid ++ (pt v).drop b) = pt v := by rw [← List.append_assoc]; exact hall
        rw [hpm]
        first
          | rw [hall]
          | rw [hall2]
        exact comp_self (k := 4) (by decide) (of_kind (by decide) hc.1)
      · rw [empty_bad] at hj; cases hj
    · cases h
  · exfalso
    rw [if_neg h32, if_neg h33, if_neg h34, if_neg h35, if_neg h37, if_neg h38, if_neg h36, empty_bad] at hj
    cases hj

end Go.Proofs.YtdifpemohdnolaaGreat
namespace Go.Proofs.YtdifpemohdnolaaGreat
open Go.RowKit VM

theorem bd_node (o n : Int) (k r : F) (vs : List ByteArray) : (F.node o n k r).bd vs = match (if o = 30 then (match vs with
      | [] => none
      | v :: q => some (v, q))
      else match k.bd vs with
      | none => none
      | some (l, q) => some (joinR (o, n, (k.cnt : Int)) l, q)) with
    | none => none
    | some (v, q) => match r.bd q with
      | none => none
      | some (a, q2) => some (v :: a, q2) := rfl
theorem bd_cases {o n : Int} {k r : F} {vs xs q : List ByteArray} (h : (F.node o n k r).bd vs = some (xs, q)) :
    (o = 30 ∧ ∃ v q1 a, vs = v :: q1 ∧ r.bd q1 = some (a, q) ∧ xs = v :: a) ∨ (o ≠ 30 ∧ ∃ l q1 a, k.bd vs = some (l, q1) ∧ r.bd q1 = some (a, q) ∧ xs = joinR (o, n, (k.cnt : Int)) l :: a) := by
  rw [bd_node] at h
  by_cases ho : o = 30
  · rw [if_pos ho] at h
    refine .inl ⟨ho, ?_⟩
    cases vs with
    | nil => cases h
    | cons v q1 =>
      simp only at h
      cases hr : r.bd q1 with
      | none => rw [hr] at h; cases h
      | some x =>
        obtain ⟨a, q2⟩ := x
        rw [hr] at h
        cases h
        exact ⟨v, q1, a, rfl, hr, rfl⟩
  · rw [if_neg ho] at h
    refine .inr ⟨ho, ?_⟩
    cases hk : k.bd vs with
    | none => rw [hk] at h; cases h
    | some x =>
      obtain ⟨l, q1⟩ := x
      rw [hk] at h
      simp only at h
      cases hr : r.bd q1 with
      | none => rw [hr] at h; cases h
      | some x =>
        obtain ⟨a, q2⟩ := x
        rw [hr] at h
        cases h
        exact ⟨l, q1, a, rfl, hr, rfl⟩
theorem bd_len : ∀ (f : F) {vs xs q : List ByteArray}, f.bd vs = some (xs, q) → xs.length = f.cnt
  | .nil, _, _, _, h => by cases h; rfl
  | .node o n k r, vs, xs, q, h => by
    rcases bd_cases h with ⟨_, v, q1, a, _, h2, rfl⟩ | ⟨_, l, q1, a, _, h2, rfl⟩
    · rw [List.length_cons, bd_len r h2]; rfl
    · rw [List.length_cons, bd_len r h2]; rfl
theorem perm_var30 {o n : Int} {k : F} (ho : o = 30) (h : permL (o, n, (k.cnt : Int)) = true) : k = .nil := by
  subst ho
  exact cnt_nil (by have := perm_var h; omega)
theorem bd_vars : ∀ (f : F) {d : Nat} {vs xs q : List ByteArray}, f.ok d = true → f.bd vs = some (xs, q) → vs.length = f.vars + q.length
  | .nil, _, vs, xs, q, _, h => by cases h; exact (Nat.zero_add _).symm
  | .node o n k r, d, vs, xs, q, hk, h => by
    obtain ⟨e, rfl, h1, h2, h3, h4⟩ := F.ok_node hk
    rcases bd_cases h with ⟨ho, v, q1, a, rfl, e2, rfl⟩ | ⟨ho, l, q1, a, e1, e2, rfl⟩
    · have := bd_vars r h4 e2
      obtain rfl := perm_var30 ho h1
      show q1.length + 1 = (if o = 30 then 1 else 0) + 0 + r.vars + q.length
      rw [if_pos ho]
      omega
    · have i1 := bd_vars k h3 e1
      have i2 := bd_vars r h4 e2
      show vs.length = (if o = 30 then 1 else 0) + k.vars + r.vars + q.length
      rw [if_neg ho]
      omega
theorem mt_cases {o n : Int} {k r : F} {v : ByteArray} {vs us : List ByteArray} (h : (F.node o n k r).mt (v :: vs) = some us) :
    ∃ l a b, splitR (o, n, (k.cnt : Int)) v = some l ∧ k.mt l = some a ∧ r.mt vs = some b ∧ us = (if o = 30 then [v] else []) ++ a ++ b := by
  rw [mt_node] at h
  cases hs : splitR (o, n, (k.cnt : Int)) v with
  | none => rw [hs] at h; cases h
  | some l =>
    rw [hs] at h
    simp only at h
    cases hk : k.mt l with
    | none => rw [hk] at h; cases h
    | some a =>
      rw [hk] at h
      simp only at h
      cases hr : r.mt vs with
      | none => rw [hr] at h; cases h
      | some b =>
        rw [hr] at h
        cases h
        exact ⟨l, a, b, rfl, hk, rfl, rfl⟩
theorem mt_vars : ∀ (f : F) {d : Nat} {xs us : List ByteArray}, f.ok d = true → xs.length = f.cnt → f.mt xs = some us → us.length = f.vars
  | .nil, _, _, _, _, _, h => by cases h; rfl
  | .node o n k r, d, xs, us, hk, hl, h => by
    obtain ⟨e, rfl, h1, h2, h3, h4⟩ := F.ok_node hk
    cases xs with
    | nil => cases hl
    | cons v vs =>
      obtain ⟨l, a, b, e1, e2, e3, rfl⟩ := mt_cases h
      have hll : l.length = k.cnt := by have : (l.length : Int) = (k.cnt : Int) := splitR_len h1 e1; omega
      have i1 := mt_vars k h3 hll e2
      have i2 := mt_vars r h4 (by have : vs.length + 1 = r.cnt + 1 := hl; omega) e3
      show _ = (if o = 30 then 1 else 0) + k.vars + r.vars
      rw [List.length_append, List.length_append, i1, i2]
      by_cases ho : o = 30
      · rw [if_pos ho, if_pos ho]; rfl
      · rw [if_neg ho, if_neg ho]; rfl
/-- what is built is matched, with the same variables -/
theorem bd_mt : ∀ (f : F) {d : Nat} {vs xs q : List ByteArray}, f.ok d = true → f.bd vs = some (xs, q) → (∀ s ∈ xs, valB 32 s = true) → ∃ us, vs = us ++ q ∧ f.mt xs = some us
  | .nil, _, vs, xs, q, _, h, _ => by cases h; exact ⟨[], rfl, rfl⟩
  | .node o n k r, d, vs, xs, q, hk, h, hv => by
    obtain ⟨e, rfl, h1, h2, h3, h4⟩ := F.ok_node hk
    rcases bd_cases h with ⟨ho, v, q1, a, rfl, e2, rfl⟩ | ⟨ho, l, q1, a, e1, e2, rfl⟩
    · obtain ⟨us, rfl, e3⟩ := bd_mt r h4 e2 fun s hs => hv s (List.mem_cons_of_mem _ hs)
      obtain rfl := perm_var30 ho h1
      subst ho
      refine ⟨v :: us, rfl, ?_⟩
      rw [mt_node, show splitR (30, n, (F.nil.cnt : Int)) v = some [] from rfl]
      simp only
      rw [show F.nil.mt [] = some [] from rfl]
      simp only
      rw [e3]
      rfl
    · have hll := bd_len k e1
      obtain ⟨a1, a2⟩ := join_split (c := (o, n, (k.cnt : Int))) (l := l) h1 (by rw [hll]) ho (hv _ (List.mem_cons_self ..))
      obtain ⟨us1, rfl, e3⟩ := bd_mt k h3 e1 a1
      obtain ⟨us2, rfl, e4⟩ := bd_mt r h4 e2 fun s hs => hv s (List.mem_cons_of_mem _ hs)
      refine ⟨us1 ++ us2, by rw [List.append_assoc], ?_⟩
      rw [mt_node, a2]
      simp only
      rw [e3]
      simp only
      rw [e4]
      simp only
      rw [if_neg ho]
      rfl
/-- what is matched is built again, where what is built is valid -/
theorem mt_bd : ∀ (f : F) {d : Nat} {xs us : List ByteArray} (q : List ByteArray), f.ok d = true → xs.length = f.cnt → f.mt xs = some us → (∀ s ∈ xs, valB 32 s = true) →
    ∃ ys, f.bd (us ++ q) = some (ys, q) ∧ ys.length = xs.length ∧ ∀ (i : Nat) (x y : ByteArray), xs[i]? = some x → ys[i]? = some y → valB 32 y = true → y = x
  | .nil, _, xs, us, q, _, hl, h, _ => by
    cases h
    obtain rfl : xs = [] := List.eq_nil_of_length_eq_zero hl
    exact ⟨[], rfl, rfl, fun i x y h1 => by simp at h1⟩
  | .node o n k r, d, xs, us, q, hk, hl, h, hv => by
    obtain ⟨e, rfl, h1, h2, h3, h4⟩ := F.ok_node hk
    cases xs with
    | nil => cases hl
    | cons v vs =>
      have hlr : vs.length = r.cnt := by have : vs.length + 1 = r.cnt + 1 := hl; omega
      obtain ⟨l, a, b, e1, e2, e3, rfl⟩ := mt_cases h
      have hll : l.length = k.cnt := by have : (l.length : Int) = (k.cnt : Int) := splitR_len h1 e1; omega
      obtain ⟨ys, b1, b2, b3⟩ := mt_bd r q h4 hlr e3 fun s hs => hv s (List.mem_cons_of_mem _ hs)
      have hv0 := hv v (List.mem_cons_self ..)
      by_cases ho : o = 30
      · obtain rfl := perm_var30 ho h1
        obtain rfl : l = [] := List.eq_nil_of_length_eq_zero hll
        cases e2
        rw [if_pos ho]
        refine ⟨v :: ys, ?_, by rw [List.length_cons, List.length_cons, b2], fun i x y c1 c2 c3 => ?_⟩
        · rw [bd_node, if_pos ho]
          show (match r.bd (b ++ q) with | none => none | some (a, q2) => some (v :: a, q2)) = _
          rw [b1]
        · cases i with
          | zero => cases c1; cases c2; rfl
          | succ i => exact b3 i x y c1 c2 c3
      · rw [if_neg ho]
        obtain ⟨zs, d1, d2, d3⟩ := mt_bd k (b ++ q) h3 hll e2 (split_val hv0 e1)
        refine ⟨joinR (o, n, (k.cnt : Int)) zs :: ys, ?_, by rw [List.length_cons, List.length_cons, b2], fun i x y c1 c2 c3 => ?_⟩
        · rw [bd_node, if_neg ho, List.nil_append, List.append_assoc, d1]
          simp only
          rw [b1]
        · cases i with
          | zero =>
            cases c1; cases c2
            have hzl : zs.length = k.cnt := by omega
            obtain ⟨f1, _⟩ := join_split (c := (o, n, (k.cnt : Int))) (l := zs) h1 (by rw [hzl]) ho c3
            have hz : zs = l := by
              refine List.ext_getElem? fun i => ?_
              by_cases hi : i < zs.length
              · have hi2 : i < l.length := by omega
                rw [List.getElem?_eq_getElem hi, List.getElem?_eq_getElem hi2, d3 i l[i] zs[i] (List.getElem?_eq_getElem hi2) (List.getElem?_eq_getElem hi) (f1 _ (List.getElem_mem hi))]
              · rw [List.getElem?_eq_none (by omega), List.getElem?_eq_none (by omega)]
            subst hz
            exact split_join h1 hv0 e1 ho c3
          | succ i => exact b3 i x y c1 c2 c3
/-- the variables suffice -/
theorem bd_some : ∀ (f : F) {d : Nat} {vs : List ByteArray}, f.ok d = true → f.vars ≤ vs.length → ∃ xs q, f.bd vs = some (xs, q)
  | .nil, _, vs, _, _ => ⟨[], vs, rfl⟩
  | .node o n k r, d, vs, hk, hl => by
    obtain ⟨e, rfl, h1, h2, h3, h4⟩ := F.ok_node hk
    have hl2 : (if o = 30 then 1 else 0) + k.vars + r.vars ≤ vs.length := hl
    by_cases ho : o = 30
    · rw [if_pos ho] at hl2
      obtain rfl := perm_var30 ho h1
      cases vs with
      | nil => simp at hl2
      | cons v q1 =>
        obtain ⟨xs, q, e1⟩ := bd_some r (vs := q1) h4 (by simp at hl2; have : F.nil.vars = 0 := rfl; omega)
        refine ⟨v :: xs, q, ?_⟩
        rw [bd_node, if_pos ho]
        simp only
        rw [e1]
    · rw [if_neg ho] at hl2
      obtain ⟨l, q1, e1⟩ := bd_some k (vs := vs) h3 (by omega)
      have hlen := bd_vars k h3 e1
      obtain ⟨xs, q, e2⟩ := bd_some r (vs := q1) h4 (by omega)
      refine ⟨joinR (o, n, (k.cnt : Int)) l :: xs, q, ?_⟩
      rw [bd_node, if_neg ho, e1]
      simp only
      rw [e2]
/-- the reference's build: none where a value on the way is not valid -/
def F.rb : F → List ByteArray → Option (List ByteArray × List ByteArray)
  | .nil, vs => some ([], vs)
  | .node o n k r, vs => match (if o = 30 then (match vs with
      | [] => none
      | v :: q => if valB 32 v = true then some (v, q) else none)
      else match k.rb vs with
      | none => none
      | some (l, q) => if valB 32 (joinR (o, n, (k.cnt : Int)) l) = true then some (joinR (o, n, (k.cnt : Int)) l, q) else none) with
    | none => none
    | some (v, q) => match r.rb q with
      | none => none
      | some (a, q2) => some (v :: a, q2)
theorem rb_node (o n : Int) (k r : F) (vs : List ByteArray) : (F.node o n k r).rb vs = match (if o = 30 then (match vs with
      | [] => none
      | v :: q => if valB 32 v = true then some (v, q) else none)
      else match k.rb vs with
      | none => none
      | some (l, q) => if valB 32 (joinR (o, n, (k.cnt : Int)) l) = true then some (joinR (o, n, (k.cnt : Int)) l, q) else none) with
    | none => none
    | some (v, q) => match r.rb q with
      | none => none
      | some (a, q2) => some (v :: a, q2) := rfl
theorem rb_bd : ∀ (f : F) {d : Nat} (vs : List ByteArray), f.ok d = true → f.rb vs = match f.bd vs with
    | none => none
    | some (xs, q) => if xs.all (valB 32) = true then some (xs, q) else none
  | .nil, _, vs, _ => rfl
  | .node o n k r, d, vs, hk => by
    obtain ⟨e, rfl, h1, h2, h3, h4⟩ := F.ok_node hk
    rw [rb_node, bd_node]
    by_cases ho : o = 30
    · rw [if_pos ho, if_pos ho]
      cases vs with
      | nil => rfl
      | cons v q1 =>
        simp only
        have ih := rb_bd r q1 h4
        cases hv : valB 32 v with
        | false =>
          rw [if_neg (by decide)]
          simp only
          cases r.bd q1 with
          | none => rfl
          | some x => obtain ⟨a, q2⟩ := x; simp [hv]
        | true =>
          rw [if_pos rfl]
          simp only
          rw [ih]
          cases r.bd q1 with
          | none => rfl
          | some x =>
            obtain ⟨a, q2⟩ := x
            simp only [List.all_cons, hv, Bool.true_and]
            cases a.all (valB 32) <;> rfl
    · rw [if_neg ho, if_neg ho, rb_bd k vs h3]
      cases hkb : k.bd vs with
      | none => rfl
      | some x =>
        obtain ⟨l, q1⟩ := x
        have hll := bd_len k hkb
        simp only
        have ih := rb_bd r q1 h4
        cases hj : valB 32 (joinR (o, n, (k.cnt : Int)) l) with
        | true =>
          have ha := (join_split (c := (o, n, (k.cnt : Int))) (l := l) h1 (by rw [hll]) ho hj).1
          rw [if_pos (List.all_eq_true.2 ha)]
          simp only
          rw [if_pos hj]
          simp only
          rw [ih]
          cases r.bd q1 with
          | none => rfl
          | some x =>
            obtain ⟨a, q2⟩ := x
            simp only [List.all_cons, hj, Bool.true_and]
            cases a.all (valB 32) <;> rfl
        | false =>
          have hL : (match (match (if l.all (valB 32) = true then some (l, q1) else none) with
              | none => none
              | some (l, q) => if valB 32 (joinR (o, n, (k.cnt : Int)) l) = true then some (joinR (o, n, (k.cnt : Int)) l, q) else none) with
              | none => none
              | some (v, q) => match r.rb q with
                | none => none
                | some (a, q2) => some (v :: a, q2)) = (none : Option (List ByteArray × List ByteArray)) := by
            cases l.all (valB 32) with
            | false => rfl
            | true =>
              simp only [if_pos]
              rw [hj]
              rfl
          rw [hL]
          cases r.bd q1 with
          | none => rfl
          | some x => obtain ⟨a, q2⟩ := x; simp [hj]

/-! one tree: Build and Match of it -/
theorem one_list {l : List ByteArray} (h : l.length = 1) : ∃ v, l = [v] := by
  match l, h with
  | [v], _ => exact ⟨v, rfl⟩
/-- what the reference's Build returns of a tree -/
def refB (t : F) (vs : List ByteArray) : Option ByteArray := match t.rb vs with
  | some (v :: _, _) => some v
  | _ => none
theorem tree_bd {t : F} (h1 : ∃ o n k, t = .node o n k .nil) (h : t.ok 64 = true) {vs : List ByteArray} (hv : vs.length = t.vars) : ∃ v, t.bd vs = some ([v], []) := by
  obtain ⟨xs, q, e⟩ := bd_some t h (vs := vs) (by omega)
  obtain ⟨v, rfl⟩ := one_list (by rw [bd_len t e, one_cnt h1])
  have := bd_vars t h e
  obtain rfl : q = [] := List.eq_nil_of_length_eq_zero (by omega)
  exact ⟨v, e⟩
theorem tree_build {t : F} (h1 : ∃ o n k, t = .node o n k .nil) (h : t.ok 64 = true) (hl : t.fl.length ≤ 8192) {vs : List ByteArray} (hv : vs.length = t.vars) (ht : totB vs ≤ 131072) {v : ByteArray} (hb : t.bd vs = some ([v], [])) : buildP t.fl vs = if valB 32 v = true then some v else none := by
  obtain ⟨o, n, k, rfl⟩ := h1
  rw [build_t h hl vs hv ht, hb]
theorem tree_ref {t : F} (h : t.ok 64 = true) {vs : List ByteArray} {v : ByteArray} (hb : t.bd vs = some ([v], [])) : refB t vs = if valB 32 v = true then some v else none := by
  unfold refB
  rw [rb_bd t vs h, hb]
  simp only [List.all_cons, List.all_nil, Bool.and_true]
  cases valB 32 v <;> rfl
theorem ref_build {t : F} (h1 : ∃ o n k, t = .node o n k .nil) (h : t.ok 64 = true) (hl : t.fl.length ≤ 8192) {vs : List ByteArray} (hv : vs.length = t.vars) (ht : totB vs ≤ 131072) : refB t vs = buildP t.fl vs := by
  obtain ⟨v, hb⟩ := tree_bd h1 h hv
  rw [tree_build h1 h hl hv ht hb, tree_ref h hb]
theorem build_match {t : F} (h1 : ∃ o n k, t = .node o n k .nil) (h : t.ok 64 = true) (hl : t.fl.length ≤ 8192) {vs : List ByteArray} (hv : vs.length = t.vars) (ht : totB vs ≤ 131072) {v : ByteArray} (hb : buildP t.fl vs = some v) : matchR t.fl v = some vs := by
  obtain ⟨x, hx⟩ := tree_bd h1 h hv
  rw [tree_build h1 h hl hv ht hx] at hb
  cases hq : valB 32 x with
  | false => rw [hq, if_neg (by decide)] at hb; cases hb
  | true =>
    rw [hq, if_pos rfl] at hb
    cases hb
    obtain ⟨us, e1, e2⟩ := bd_mt t h hx (fun s hs => by simp at hs; subst hs; exact hq)
    rw [List.append_nil] at e1
    subst e1
    obtain ⟨o, n, k, rfl⟩ := h1
    rw [match_t h hl, if_pos hq, e2]
theorem match_build {t : F} (h1 : ∃ o n k, t = .node o n k .nil) (h : t.ok 64 = true) (hl : t.fl.length ≤ 8192) {v : ByteArray} {m : List ByteArray} (hm : matchR t.fl v = some m) : m.length = t.vars ∧ ∀ w, buildP t.fl m = some w → w = v := by
  have hc := one_cnt h1
  have hm2 : valB 32 v = true ∧ t.mt [v] = some m := by
    obtain ⟨o, n, k, rfl⟩ := h1
    rw [match_t h hl] at hm
    cases hq : valB 32 v with
    | false => rw [hq, if_neg (by decide)] at hm; cases hm
    | true => rw [hq, if_pos rfl] at hm; exact ⟨rfl, hm⟩
  have hlen := mt_vars t h (xs := [v]) (by rw [hc]; rfl) hm2.2
  refine ⟨hlen, fun w hw => ?_⟩
  obtain ⟨ys, e1, e2, e3⟩ := mt_bd t [] h (xs := [v]) (by rw [hc]; rfl) hm2.2 (fun s hs => by simp at hs; subst hs; exact hm2.1)
  rw [List.append_nil] at e1
  obtain ⟨y, rfl⟩ := one_list e2
  have ht : totB m ≤ 131072 := by
    unfold buildP at hw
    split at hw
    · rename_i q; exact q.2.2
    · cases hw
  rw [tree_build h1 h hl hlen ht e1] at hw
  split at hw
  · rename_i q
    cases hw
    exact e3 0 v w rfl rfl q
  · cases hw

end Go.Proofs.YtdifpemohdnolaaGreat
