/- Sorting values: lists that ascend are told by their members; insertion keeps the order; what strings of values are trees of; an encoding of parts. No program in it. No conditions. -/
import Derived.Test.YtdifpemohdnolaaGreatVaC2
import Derived.Test.YtdifpemohdnolaaGreatVaC
import Derived.Test.YtdifpemohdnolaaGreatVrA
namespace Go.Proofs.YtdifpemohdnolaaGreat
open VM

theorem cmpM_lt_le {s t u : ByteArray} (h1 : cmpM s t < 0) (h2 : cmpM t u ≤ 0) : cmpM s u < 0 := by
  have h3 := cmpM_trans s t u (by omega) h2
  rcases Int.lt_or_eq_of_le h3 with h | h
  · exact h
  · have e := (cmpM_zero s u).1 h
    subst e
    have := cmpM_anti s t
    omega
theorem cmpM_le_lt {s t u : ByteArray} (h1 : cmpM s t ≤ 0) (h2 : cmpM t u < 0) : cmpM s u < 0 := by
  have h3 := cmpM_trans s t u h1 (by omega)
  rcases Int.lt_or_eq_of_le h3 with h | h
  · exact h
  · have e := (cmpM_zero s u).1 h
    subst e
    have := cmpM_anti s t
    omega
def Asc (l : List ByteArray) : Prop := l.Pairwise fun s t => cmpM s t < 0
theorem Asc.nil : Asc [] := List.Pairwise.nil
theorem asc_unique : ∀ {l m : List ByteArray}, Asc l → Asc m → (∀ u, u ∈ l ↔ u ∈ m) → l = m
  | [], [], _, _, _ => rfl
  | [], b :: m, _, _, h => absurd ((h b).2 (by simp)) (by simp)
  | a :: l, [], _, _, h => absurd ((h a).1 (by simp)) (by simp)
  | a :: l, b :: m, h1, h2, h => by
    obtain ⟨p1, p2⟩ := List.pairwise_cons.1 h1
    obtain ⟨q1, q2⟩ := List.pairwise_cons.1 h2
    have e : a = b := by
      rcases List.mem_cons.1 ((h a).1 (by simp)) with e | e
      · exact e
      · rcases List.mem_cons.1 ((h b).2 (by simp)) with f | f
        · exact f.symm
        · have g1 := q1 a e
          have g2 := p1 b f
          have := cmpM_anti a b
          omega
    subst e
    rw [asc_unique p2 q2 fun u => ?_]
    have hu := h u
    constructor
    · intro hul
      rcases List.mem_cons.1 (hu.1 (List.mem_cons_of_mem _ hul)) with e | e
      · subst e; have := p1 u hul; rw [cmpM_self] at this; omega
      · exact e
    · intro hul
      rcases List.mem_cons.1 (hu.2 (List.mem_cons_of_mem _ hul)) with e | e
      · subst e; have := q1 u hul; rw [cmpM_self] at this; omega
      · exact e
theorem ins_asc {out : List ByteArray} {x : ByteArray} {k : Nat} (h : Asc out) (h1 : ∀ u ∈ out.drop k, 0 < cmpM u x) (h2 : k = 0 ∨ ∃ u, out[k - 1]? = some u ∧ cmpM u x < 0) : Asc (out.take k ++ x :: out.drop k) := by
  have hd : Asc (out.drop k) := h.sublist (List.drop_sublist _ _)
  have ht : ∀ u ∈ out.take k, cmpM u x < 0 := by
    rcases h2 with rfl | ⟨v, hv, hvx⟩
    · intro u hu; simp at hu
    · cases k with
      | zero => intro u hu; simp at hu
      | succ j =>
        rw [Nat.add_sub_cancel] at hv
        have hA : Asc (out.take (j + 1)) := h.sublist (List.take_sublist _ _)
        rw [List.take_add_one, hv] at hA ⊢
        obtain ⟨_, _, hA3⟩ := List.pairwise_append.1 hA
        intro u hu
        rcases List.mem_append.1 hu with hu | hu
        · exact cmpM_lt_le (hA3 u hu v (by simp)) (by omega)
        · simp at hu; subst hu; exact hvx
  have hgt : ∀ u ∈ out.drop k, cmpM x u < 0 := fun u hu => by have := h1 u hu; have := cmpM_anti x u; omega
  refine List.pairwise_append.2 ⟨h.sublist (List.take_sublist _ _), List.pairwise_cons.2 ⟨hgt, hd⟩, ?_⟩
  intro a ha b hb
  rcases List.mem_cons.1 hb with rfl | hb
  · exact ht a ha
  · exact cmpM_lt_le (ht a ha) (by have := hgt b hb; omega)
theorem ins_mem {out : List ByteArray} {x u : ByteArray} (k : Nat) : u ∈ out.take k ++ x :: out.drop k ↔ u ∈ out ∨ u = x := by
  rw [List.mem_append, List.mem_cons]
  constructor
  · rintro (h | h | h)
    · exact .inl (List.mem_of_mem_take h)
    · exact .inr h
    · exact .inl (List.mem_of_mem_drop h)
  · rintro (h | h)
    · rw [← List.take_append_drop k out, List.mem_append] at h
      rcases h with h | h
      · exact .inl h
      · exact .inr (.inr h)
    · exact .inr (.inl h)
/-- the values of a list in ascending order, each once -/
def insM (x : ByteArray) : List ByteArray → List ByteArray
  | [] => [x]
  | a :: l => if cmpM x a < 0 then x :: a :: l else if x = a then a :: l else a :: insM x l
def sortM (l : List ByteArray) : List ByteArray := l.foldr insM []
theorem insM_mem {x u : ByteArray} : ∀ {l : List ByteArray}, u ∈ insM x l ↔ u = x ∨ u ∈ l
  | [] => by simp [insM]
  | a :: l => by
    unfold insM
    split
    · simp
    · split
      · rename_i h; subst h; simp
      · rw [List.mem_cons, insM_mem (l := l), List.mem_cons]
        constructor
        · rintro (h | h | h)
          · exact .inr (.inl h)
          · exact .inl h
          · exact .inr (.inr h)
        · rintro (h | h | h)
          · exact .inr (.inl h)
          · exact .inl h
          · exact .inr (.inr h)
theorem insM_asc {x : ByteArray} : ∀ {l : List ByteArray}, Asc l → Asc (insM x l)
  | [], _ => List.pairwise_singleton _ _
  | a :: l, h => by
    obtain ⟨h1, h2⟩ := List.pairwise_cons.1 h
    unfold insM
    split
    · rename_i hx
      refine List.pairwise_cons.2 ⟨?_, h⟩
      intro u hu
      rcases List.mem_cons.1 hu with rfl | hu
      · exact hx
      · exact cmpM_lt_le hx (by have := h1 u hu; omega)
    · split
      · exact h
      · rename_i hx hne
        refine List.pairwise_cons.2 ⟨?_, insM_asc h2⟩
        intro u hu
        rcases insM_mem.1 hu with rfl | hu
        · have h3 := cmpM_anti a u
          have h4 : cmpM u a ≠ 0 := fun q => hne ((cmpM_zero _ _).1 q)
          omega
        · exact h1 u hu
theorem sortM_asc (l : List ByteArray) : Asc (sortM l) := by
  induction l with
  | nil => exact Asc.nil
  | cons a l ih => exact insM_asc ih
theorem sortM_mem {u : ByteArray} {l : List ByteArray} : u ∈ sortM l ↔ u ∈ l := by
  induction l with
  | nil => exact Iff.rfl
  | cons a l ih =>
    show u ∈ insM a (sortM l) ↔ _
    rw [insM_mem, ih, List.mem_cons]
theorem sortM_eq {l m : List ByteArray} (h : Asc m) (hm : ∀ u, u ∈ m ↔ u ∈ l) : m = sortM l :=
  asc_unique h (sortM_asc l) fun u => (hm u).trans sortM_mem.symm
theorem sortM_self {l : List ByteArray} (h : Asc l) : sortM l = l := (sortM_eq h fun _ => Iff.rfl).symm
theorem insM_len {x : ByteArray} : ∀ {l : List ByteArray}, (insM x l).length ≤ l.length + 1
  | [] => by simp [insM]
  | a :: l => by
    unfold insM
    split
    · simp
    · split
      · simp
      · have := insM_len (x := x) (l := l); simp; omega
theorem sortM_len (l : List ByteArray) : (sortM l).length ≤ l.length := by
  induction l with
  | nil => exact Nat.le_refl _
  | cons a l ih => have := insM_len (x := a) (l := sortM l); show (insM a (sortM l)).length ≤ _; simp; omega

/-! strings of values and their trees -/
theorem valB_iff {d : Nat} {s : ByteArray} : valB d s = true ↔ s.size ≤ 131072 ∧ ∃ v, bs s = enc v ∧ wf d v = true := by
  constructor
  · intro h
    unfold valB at h
    rw [Bool.and_eq_true, decide_eq_true_eq] at h
    obtain ⟨h1, h2⟩ := h
    cases hd : dec d (bs s) with
    | none => rw [hd] at h2; cases h2
    | some q =>
      obtain ⟨v, r⟩ := q
      rw [hd] at h2
      obtain ⟨a1, a2⟩ := dec_ok d _ _ _ hd
      cases r with
      | nil => exact ⟨h1, v, by rw [a1, List.append_nil], a2⟩
      | cons b r => cases h2
  · rintro ⟨h1, v, h2, h3⟩
    unfold valB
    have := dec_of d v [] h3
    rw [List.append_nil, ← h2] at this
    rw [this, decide_eq_true h1]; rfl
theorem tree_of {d : Nat} (hd : d ≤ 32) {s : ByteArray} {v : V} (h : bs s = enc v) (hw : wf d v = true) : treeB s = v := by
  have := dec_of 32 v [] (wf_le hd hw)
  rw [List.append_nil, ← h] at this
  unfold treeB
  rw [this]
theorem tree_val {d : Nat} (hd : d ≤ 32) {s : ByteArray} (h : valB d s = true) : wf d (treeB s) = true ∧ bs s = enc (treeB s) ∧ s.size ≤ 131072 := by
  obtain ⟨h1, v, h2, h3⟩ := valB_iff.1 h
  rw [tree_of hd h2 h3]
  exact ⟨h3, h2, h1⟩
theorem valB_le {d e : Nat} (h : d ≤ e) {s : ByteArray} (hs : valB d s = true) : valB e s = true := by
  obtain ⟨h1, v, h2, h3⟩ := valB_iff.1 hs
  exact valB_iff.2 ⟨h1, v, h2, wf_le h h3⟩
theorem trees_bs {d : Nat} (hd : d ≤ 32) {ps : List ByteArray} (h : ∀ s ∈ ps, valB d s = true) : ps.map bs = (ps.map treeB).map enc ∧ (ps.map treeB).all (wf d) = true := by
  constructor
  · rw [List.map_map]
    exact List.map_congr_left fun s hs => (tree_val hd (h s hs)).2.1
  · rw [List.all_map, List.all_eq_true]
    exact fun s hs => (tree_val hd (h s hs)).1
theorem cmp_tree {d : Nat} (hd : d ≤ 32) {s t : ByteArray} (hs : valB d s = true) (ht : valB d t = true) : cmpM s t = ord d (treeB s) (treeB t) := by
  have h1 := tree_val hd hs
  have h2 := tree_val hd ht
  rw [← ord_le hd h1.1 h2.1]
  unfold cmpM
  by_cases e : s = t
  · subst e; rw [if_pos rfl]; exact ((ord_tot 32).refl _ (wf_le hd h1.1)).symm
  · rw [if_neg e, if_pos (valB_le hd hs), if_pos (valB_le hd ht)]
theorem asc_tree {d : Nat} (hd : d ≤ 32) : ∀ {ps : List ByteArray}, (∀ s ∈ ps, valB d s = true) → Asc ps → ascL (ord d) (ps.map treeB) = true
  | [], _, _ => rfl
  | [a], _, _ => rfl
  | a :: b :: l, h, hA => by
    obtain ⟨h1, h2⟩ := List.pairwise_cons.1 hA
    show (decide (ord d (treeB a) (treeB b) < 0) && ascL (ord d) ((b :: l).map treeB)) = true
    rw [← cmp_tree hd (h a (by simp)) (h b (by simp)), decide_eq_true (h1 b (by simp)), asc_tree hd (fun s hs => h s (List.mem_cons_of_mem _ hs)) h2]; rfl
theorem asc_of_tree {d : Nat} (hd : d ≤ 32) : ∀ {ps : List ByteArray}, (∀ s ∈ ps, valB d s = true) → ascL (ord d) (ps.map treeB) = true → Asc ps
  | [], _, _ => Asc.nil
  | [a], _, _ => List.pairwise_singleton _ _
  | a :: b :: l, h, hA => by
    have hA' : (decide (ord d (treeB a) (treeB b) < 0) && ascL (ord d) ((b :: l).map treeB)) = true := hA
    rw [Bool.and_eq_true, decide_eq_true_eq, ← cmp_tree hd (h a (by simp)) (h b (by simp))] at hA'
    have ih := asc_of_tree hd (fun s hs => h s (List.mem_cons_of_mem _ hs)) hA'.2
    refine List.pairwise_cons.2 ⟨?_, ih⟩
    intro u hu
    rcases List.mem_cons.1 hu with rfl | hu
    · exact hA'.1
    · exact cmpM_lt_le hA'.1 (by have := (List.pairwise_cons.1 ih).1 u hu; omega)
theorem enc_two {d : Nat} {v : V} (h : wf d v = true) : 2 ≤ (enc v).length := by
  cases v with
  | int l =>
    cases d with
    | zero => cases h
    | succ d => unfold wf at h; rw [decide_eq_true_eq] at h; simp [enc, h]
  | bool b => simp [enc]
  | name a b => simp [enc]
  | comp k l => simp [enc]
theorem val_two {d : Nat} {s : ByteArray} (h : valB d s = true) : 2 ≤ s.size := by
  obtain ⟨h1, v, h2, h3⟩ := valB_iff.1 h
  rw [← bs_size, h2]; exact enc_two h3
theorem tot_two {d : Nat} : ∀ {ps : List ByteArray}, (∀ s ∈ ps, valB d s = true) → 2 * ps.length ≤ totB ps
  | [], _ => Nat.le_refl _
  | a :: l, h => by
    have h1 := val_two (h a (by simp))
    have h2 := tot_two (ps := l) fun s hs => h s (List.mem_cons_of_mem _ hs)
    have e : totB (a :: l) = a.size + totB l := by unfold totB; simp
    rw [e, List.length_cons]; omega
theorem encs_flat : ∀ l : List V, encs l = (l.map enc).flatten
  | [] => rfl
  | a :: l => by show enc a ++ encs l = _; rw [encs_flat l]; simp
def encB (k : UInt8) (ps : List ByteArray) : ByteArray := ⟨(encL k ps).toArray⟩
theorem bs_encB {k : UInt8} {ps : List ByteArray} {vs : List V} (h : ps.map bs = vs.map enc) : bs (encB k ps) = enc (.comp k vs) := by
  have hl : ps.length = vs.length := by have := congrArg List.length h; simpa using this
  show (encL k ps).toArray.toList = k :: UInt8.ofNat (vs.length / 256) :: UInt8.ofNat vs.length :: encs vs
  rw [encs_flat, ← h, ← hl]
  rfl
theorem encB_size (k : UInt8) (ps : List ByteArray) : (encB k ps).size = 3 + totB ps := by
  have h := codeL_len k ps ps.length
  rw [codeL_all k ps (Nat.le_refl _), List.take_length] at h
  rw [← h]; simp [encB, ByteArray.size]
/-- a value of parts that are values -/
def mkM (k : UInt8) (ps : List ByteArray) : ByteArray := if ps.all (valB 32) = true ∧ valB 32 (encB k ps) = true then encB k ps else ⟨#[]⟩
theorem mkM_val {k : UInt8} {ps : List ByteArray} (h : ∀ s ∈ ps, valB 32 s = true) : mkM k ps = if valB 32 (encB k ps) = true then encB k ps else ⟨#[]⟩ := by
  unfold mkM
  rw [List.all_eq_true.2 h]
  simp
theorem enc_comp_val {d : Nat} (hd : d ≤ 31) {k : UInt8} {ps : List ByteArray} (h : ∀ s ∈ ps, valB d s = true) (hk : isComp k = true) (hp : parted (ord d) k (ps.map treeB) = true) (hz : 3 + totB ps ≤ 131072) :
    valB (d + 1) (encB k ps) = true ∧ treeB (encB k ps) = .comp k (ps.map treeB) := by
  obtain ⟨t1, t2⟩ := trees_bs (by omega) h
  have h2 := tot_two h
  have hw : wf (d + 1) (.comp k (ps.map treeB)) = true := by
    unfold wf
    rw [hk, t2, hp, List.length_map]
    simp; omega
  have he := bs_encB (k := k) t1
  exact ⟨valB_iff.2 ⟨by rw [encB_size]; exact hz, _, he, hw⟩, tree_of (by omega) he hw⟩
theorem mkM_good {d : Nat} (hd : d ≤ 31) {k : UInt8} {ps : List ByteArray} (h : ∀ s ∈ ps, valB d s = true) (hk : isComp k = true) (hp : parted (ord d) k (ps.map treeB) = true) (hz : 3 + totB ps ≤ 131072) :
    mkM k ps = encB k ps ∧ valB (d + 1) (encB k ps) = true := by
  have h1 := (enc_comp_val hd h hk hp hz).1
  refine ⟨?_, h1⟩
  rw [mkM_val fun s hs => valB_le (by omega) (h s hs), if_pos (valB_le (by omega) h1)]

end Go.Proofs.YtdifpemohdnolaaGreat
