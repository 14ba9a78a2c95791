/- Types with their variables renumbered, and types that match each other: the model, and that two types match each other exactly if they are the same when renumbered. No program in it. No conditions. -/
import Derived.Test.YtcnanbmbdajcaaaDoorTyV
namespace Go.Proofs.YtcnanbmbdajcaaaDoor.M
open Go

/-- a variable's place among the variables, in the order of their first occurrence -/
def vIdx (ts : List TN) (v : Int) : Int := ((varsL ts).idxOf v : Nat)
def canonN (ts : List TN) (t : TN) : TN := if t.1 = 1 then (1, vIdx ts t.2.1, t.2.2) else t
/-- a type with its variables renumbered in the order of their first occurrence -/
def canonL (ts : List TN) : List TN := ts.map (canonN ts)
/-- two lists of nodes that differ in the names of variables alone -/
structure Alike (ts us : List TN) : Prop where
  len : ts.length = us.length
  node : ∀ (i : Nat) (t u : TN), ts[i]? = some t → us[i]? = some u → (t.1 = 1 ∧ u.1 = 1 ∧ t.2.2 = u.2.2) ∨ (t.1 ≠ 1 ∧ t = u)
  var : ∀ (i j : Nat) (t u t' u' : TN), ts[i]? = some t → us[i]? = some u → ts[j]? = some t' → us[j]? = some u' → t.1 = 1 → t'.1 = 1 → (t.2.1 = t'.2.1 ↔ u.2.1 = u'.2.1)

theorem varsL_mem {ts : List TN} {i : Nat} {t : TN} (h : ts[i]? = some t) (h1 : t.1 = 1) : t.2.1 ∈ varsL ts := by
  have key : ∀ (l : List TN) (acc : List Int) (x : Int), x ∈ acc → x ∈ l.foldl addV acc := by
    intro l
    induction l with
    | nil => intro acc x hx; exact hx
    | cons a r ih =>
      intro acc x hx
      refine ih _ _ ?_
      unfold addV; split
      · exact List.mem_append_left _ hx
      · exact hx
  have key2 : ∀ (l : List TN) (acc : List Int) (i : Nat), l[i]? = some t → t.2.1 ∈ l.foldl addV acc := by
    intro l
    induction l with
    | nil => intro acc i hi; simp at hi
    | cons a r ih =>
      intro acc i hi
      cases i with
      | zero =>
        have : a = t := by simpa using hi
        subst this
        refine key r _ _ ?_
        unfold addV
        by_cases hm : a.2.1 ∈ acc
        · rw [if_neg (fun q => q.2 hm)]; exact hm
        · rw [if_pos ⟨h1, hm⟩]; simp
      | succ i => exact ih _ i (by simpa using hi)
  exact key2 ts [] i h
theorem vIdx_inj {ts : List TN} {x y : Int} (hx : x ∈ varsL ts) (h : vIdx ts x = vIdx ts y) : x = y := by
  unfold vIdx at h
  have h' : (varsL ts).idxOf x = (varsL ts).idxOf y := by omega
  have hl := List.idxOf_lt_length_of_mem hx
  have e1 : (varsL ts)[(varsL ts).idxOf x]? = some x := by rw [List.getElem?_eq_getElem hl]; simp
  have hl2 : (varsL ts).idxOf y < (varsL ts).length := by rw [← h']; exact hl
  have e2 : (varsL ts)[(varsL ts).idxOf y]? = some y := by rw [List.getElem?_eq_getElem hl2]; simp
  rw [h', e2] at e1
  exact (Option.some.inj e1).symm
theorem canon_node {ts : List TN} {i : Nat} : (canonL ts)[i]? = (ts[i]?).map (canonN ts) := by unfold canonL; rw [List.getElem?_map]
theorem alike_of_canon {ts us : List TN} (h : canonL ts = canonL us) : Alike ts us := by
  have hl : ts.length = us.length := by have := congrArg List.length h; simpa [canonL] using this
  have hn : ∀ (i : Nat) (t u : TN), ts[i]? = some t → us[i]? = some u → canonN ts t = canonN us u := by
    intro i t u h1 h2
    have := congrArg (fun l => l[i]?) h
    simp only [canon_node, h1, h2, Option.map_some] at this
    exact Option.some.inj this
  have hv : ∀ (i : Nat) (t u : TN), ts[i]? = some t → us[i]? = some u → t.1 = 1 → u.1 = 1 ∧ vIdx ts t.2.1 = vIdx us u.2.1 ∧ t.2.2 = u.2.2 := by
    intro i t u h1 h2 hk
    have := hn i t u h1 h2
    unfold canonN at this
    rw [if_pos hk] at this
    by_cases hu : u.1 = 1
    · rw [if_pos hu] at this
      exact ⟨hu, congrArg (fun q => q.2.1) this, congrArg (fun q => q.2.2) this⟩
    · rw [if_neg hu] at this
      exact absurd (congrArg (fun q => q.1) this).symm hu
  refine ⟨hl, fun i t u h1 h2 => ?_, fun i j t u t' u' h1 h2 h3 h4 k1 k2 => ?_⟩
  · by_cases hk : t.1 = 1
    · obtain ⟨a, _, b⟩ := hv i t u h1 h2 hk
      exact .inl ⟨hk, a, b⟩
    · have := hn i t u h1 h2
      unfold canonN at this
      rw [if_neg hk] at this
      by_cases hu : u.1 = 1
      · rw [if_pos hu] at this; exact absurd (congrArg (fun q => q.1) this) hk
      · rw [if_neg hu] at this; exact .inr ⟨hk, this⟩
  · obtain ⟨a1, a2, _⟩ := hv i t u h1 h2 k1
    obtain ⟨b1, b2, _⟩ := hv j t' u' h3 h4 k2
    constructor
    · intro e
      refine vIdx_inj (varsL_mem h2 a1) ?_
      rw [← a2, ← b2, e]
    · intro e
      refine vIdx_inj (varsL_mem h1 k1) ?_
      rw [a2, b2, e]
/-- the variables of both lists, side by side -/
structure Pairs (ts us : List TN) (n : Nat) (L : List (Int × Int)) : Prop where
  left : varsL (ts.take n) = L.map (·.1)
  right : varsL (us.take n) = L.map (·.2)
  from_ : ∀ p ∈ L, ∃ (i : Nat) (t u : TN), ts[i]? = some t ∧ us[i]? = some u ∧ t.1 = 1 ∧ p = (t.2.1, u.2.1)
  have_ : ∀ (i : Nat) (t u : TN), i < n → ts[i]? = some t → us[i]? = some u → t.1 = 1 → (t.2.1, u.2.1) ∈ L
theorem pairs_all {ts us : List TN} (h : Alike ts us) : ∀ n, n ≤ ts.length → ∃ L, Pairs ts us n L := by
  intro n
  induction n with
  | zero => intro _; exact ⟨[], rfl, rfl, fun p hp => by simp at hp, fun i t u hi => by omega⟩
  | succ n ih =>
    intro hn
    obtain ⟨L, h1, h2, h3, h4⟩ := ih (by omega)
    obtain ⟨t, ht⟩ : ∃ t, ts[n]? = some t := ⟨ts[n], List.getElem?_eq_getElem (by omega)⟩
    obtain ⟨u, hu⟩ : ∃ u, us[n]? = some u := ⟨us[n]'(by have := h.len; omega), List.getElem?_eq_getElem _⟩
    have s1 := varsL_step ht
    have s2 := varsL_step hu
    rcases h.node n t u ht hu with ⟨k1, k2, _⟩ | ⟨k1, rfl⟩
    · by_cases hm : (t.2.1, u.2.1) ∈ L
      · refine ⟨L, ?_, ?_, h3, fun i t' u' hi e1 e2 ek => ?_⟩
        · rw [s1, h1]; unfold addV; rw [if_neg (fun q => q.2 (List.mem_map.2 ⟨_, hm, rfl⟩))]
        · rw [s2, h2]; unfold addV; rw [if_neg (fun q => q.2 (List.mem_map.2 ⟨_, hm, rfl⟩))]
        · by_cases hin : i = n
          · subst hin; rw [ht] at e1; rw [hu] at e2; cases e1; cases e2; exact hm
          · exact h4 i t' u' (by omega) e1 e2 ek
      · have n1 : t.2.1 ∉ L.map (·.1) := by
          intro q
          obtain ⟨p, hp, e⟩ := List.mem_map.1 q
          obtain ⟨i, t', u', e1, e2, e3, rfl⟩ := h3 p hp
          have := (h.var i n t' u' t u e1 e2 ht hu e3 k1).1 e
          simp only at e
          rw [e, this] at hp
          exact hm hp
        have n2 : u.2.1 ∉ L.map (·.2) := by
          intro q
          obtain ⟨p, hp, e⟩ := List.mem_map.1 q
          obtain ⟨i, t', u', e1, e2, e3, rfl⟩ := h3 p hp
          have := (h.var i n t' u' t u e1 e2 ht hu e3 k1).2 e
          simp only at e
          rw [e, this] at hp
          exact hm hp
        refine ⟨L ++ [(t.2.1, u.2.1)], ?_, ?_, ?_, fun i t' u' hi e1 e2 ek => ?_⟩
        · rw [s1, h1]; unfold addV; rw [if_pos ⟨k1, n1⟩]; simp
        · rw [s2, h2]; unfold addV; rw [if_pos ⟨k2, n2⟩]; simp
        · intro p hp
          rcases List.mem_append.1 hp with hp | hp
          · exact h3 p hp
          · simp at hp; exact ⟨n, t, u, ht, hu, k1, hp⟩
        · by_cases hin : i = n
          · subst hin; rw [ht] at e1; rw [hu] at e2; cases e1; cases e2; simp
          · exact List.mem_append_left _ (h4 i t' u' (by omega) e1 e2 ek)
    · refine ⟨L, ?_, ?_, h3, fun i t' u' hi e1 e2 ek => ?_⟩
      · rw [s1, h1]; unfold addV; rw [if_neg (fun q => k1 q.1)]
      · rw [s2, h2]; unfold addV; rw [if_neg (fun q => k1 q.1)]
      · by_cases hin : i = n
        · subst hin; rw [ht] at e1; cases e1; exact absurd ek k1
        · exact h4 i t' u' (by omega) e1 e2 ek
theorem idx_side {x y : Int} : ∀ {L : List (Int × Int)}, (∀ p ∈ L, p.1 = x ↔ p.2 = y) → (L.map (·.1)).idxOf x = (L.map (·.2)).idxOf y := by
  intro L
  induction L with
  | nil => intro _; rfl
  | cons p r ih =>
    intro h
    have hp := h p (by simp)
    simp only [List.map_cons, List.idxOf_cons]
    by_cases e : p.1 = x
    · have e2 := hp.1 e
      simp [e, e2]
    · have e2 : ¬ p.2 = y := fun q => e (hp.2 q)
      have b1 : (p.1 == x) = false := beq_eq_false_iff_ne.2 e
      have b2 : (p.2 == y) = false := beq_eq_false_iff_ne.2 e2
      rw [b1, b2, ih (fun q hq => h q (by simp [hq]))]
theorem canon_of_alike {ts us : List TN} (h : Alike ts us) : canonL ts = canonL us := by
  obtain ⟨L, h1, h2, h3, h4⟩ := pairs_all h ts.length (Nat.le_refl _)
  rw [List.take_length] at h1
  rw [h.len, List.take_length] at h2
  apply List.ext_getElem?
  intro i
  rw [canon_node, canon_node]
  cases ht : ts[i]? with
  | none =>
    have : us[i]? = none := by
      rw [List.getElem?_eq_none_iff] at ht ⊢
      have := h.len; omega
    rw [this]; rfl
  | some t =>
    have hil : i < ts.length := (List.getElem?_eq_some_iff.1 ht).1
    obtain ⟨u, hu⟩ : ∃ u, us[i]? = some u := ⟨us[i]'(by have := h.len; omega), List.getElem?_eq_getElem _⟩
    rw [hu, Option.map_some, Option.map_some]
    congr 1
    rcases h.node i t u ht hu with ⟨k1, k2, k3⟩ | ⟨k1, rfl⟩
    · unfold canonN
      rw [if_pos k1, if_pos k2, k3]
      have : vIdx ts t.2.1 = vIdx us u.2.1 := by
        unfold vIdx
        rw [h1, h2, idx_side]
        intro p hp
        obtain ⟨j, t', u', e1, e2, e3, rfl⟩ := h3 p hp
        exact h.var j i t' u' t u e1 e2 ht hu e3 k1
      rw [this]
    · unfold canonN
      rw [if_neg k1, if_neg k1]
theorem canon_iff {ts us : List TN} : canonL ts = canonL us ↔ Alike ts us := ⟨alike_of_canon, canon_of_alike⟩
/-- a canonical type is its own -/
theorem canon_twice (ts : List TN) : canonL (canonL ts) = canonL ts := by
  refine canon_of_alike ?_
  have hg : ∀ (i : Nat) (t u : TN), (canonL ts)[i]? = some t → ts[i]? = some u → t = canonN ts u := by
    intro i t u h1 h2
    rw [canon_node, h2] at h1
    exact (Option.some.inj h1).symm
  refine ⟨by simp [canonL], fun i t u h1 h2 => ?_, fun i j t u t' u' h1 h2 h3 h4 k1 k2 => ?_⟩
  · have := hg i t u h1 h2
    subst this
    unfold canonN
    by_cases hu : u.1 = 1
    · rw [if_pos hu]; exact .inl ⟨rfl, hu, rfl⟩
    · rw [if_neg hu]; exact .inr ⟨hu, rfl⟩
  · have a := hg i t u h1 h2
    have b := hg j t' u' h3 h4
    subst a; subst b
    unfold canonN at k1 k2 ⊢
    by_cases hu : u.1 = 1
    · by_cases hu' : u'.1 = 1
      · rw [if_pos hu, if_pos hu']
        exact ⟨fun e => vIdx_inj (varsL_mem h2 hu) e, fun e => by show vIdx ts _ = vIdx ts _; rw [e]⟩
      · rw [if_neg hu'] at k2; exact absurd k2 hu'
    · rw [if_neg hu] at k1; exact absurd k1 hu

/-- how many nodes the first n types of a list have -/
def szM : Nat → List TN → Option Nat
  | 0, _ => some 0
  | _ + 1, [] => none
  | n + 1, t :: r => (szM (n + t.2.2.toNat) r).map (· + 1)
/-- the list is n types, one after another -/
def Full (n : Nat) (ts : List TN) : Prop := szM n ts = some ts.length
theorem szM_le : ∀ (ts : List TN) (n z : Nat), szM n ts = some z → z ≤ ts.length := by
  intro ts
  induction ts with
  | nil => intro n z h; cases n <;> simp [szM] at h; omega
  | cons t r ih =>
    intro n z h
    cases n with
    | zero => simp [szM] at h; omega
    | succ n =>
      simp only [szM, Option.map_eq_some_iff] at h
      obtain ⟨y, hy, rfl⟩ := h
      have := ih _ _ hy
      simp; omega
theorem full_cons {n : Nat} {t : TN} {r : List TN} (h : Full (n + 1) (t :: r)) : Full (n + t.2.2.toNat) r := by
  unfold Full at h ⊢
  simp only [szM, Option.map_eq_some_iff, List.length_cons] at h
  obtain ⟨y, hy, e⟩ := h
  rw [hy]; congr 1; omega
theorem full_pos {n : Nat} {t : TN} {r : List TN} (h : Full n (t :: r)) : ∃ m, n = m + 1 := by
  cases n with
  | zero => unfold Full at h; simp [szM] at h
  | succ n => exact ⟨n, rfl⟩
theorem full_nil {n : Nat} (h : Full n []) : n = 0 := by
  cases n with
  | zero => rfl
  | succ n => unfold Full at h; simp [szM] at h
/-- the first of n + m types and the rest -/
theorem szM_add : ∀ (ts : List TN) (n m z : Nat), szM (n + m) ts = some z → ∃ x y, szM n ts = some x ∧ szM m (ts.drop x) = some y ∧ x + y = z := by
  intro ts
  induction ts with
  | nil =>
    intro n m z h
    cases n with
    | zero => exact ⟨0, z, by simp [szM], by simpa using h, by omega⟩
    | succ n => rw [Nat.add_right_comm] at h; simp [szM] at h
  | cons t r ih =>
    intro n m z h
    cases n with
    | zero => exact ⟨0, z, by simp [szM], by simpa using h, by omega⟩
    | succ n =>
      rw [Nat.add_right_comm] at h
      simp only [szM, Option.map_eq_some_iff] at h
      obtain ⟨y, hy, rfl⟩ := h
      rw [Nat.add_right_comm] at hy
      obtain ⟨x, y', h1, h2, h3⟩ := ih _ _ _ hy
      exact ⟨x + 1, y', by simp [szM, h1], by simpa using h2, by omega⟩
theorem full_first {n : Nat} {b : List TN} (h : Full (n + 1) b) : ∃ z, szM 1 b = some z ∧ 1 ≤ z ∧ z ≤ b.length ∧ Full n (b.drop z) := by
  unfold Full at h
  rw [Nat.add_comm] at h
  obtain ⟨x, y, h1, h2, h3⟩ := szM_add b 1 n _ h
  have hx := szM_le _ _ _ h1
  refine ⟨x, h1, ?_, hx, ?_⟩
  · cases b with
    | nil => simp [szM] at h1
    | cons t r =>
      simp only [szM, Option.map_eq_some_iff] at h1
      obtain ⟨q, _, rfl⟩ := h1
      omega
  · unfold Full; rw [h2, List.length_drop]; congr 1; omega
theorem szM_leaf {u : TN} {r : List TN} (h : u.2.2 = 0) : szM 1 (u :: r) = some 1 := by simp [szM, h]
theorem full_leaf {n : Nat} {u : TN} {r : List TN} (h : Full (n + 1) (u :: r)) (h0 : u.2.2 = 0) : Full n r := by
  have := full_cons h
  rw [h0] at this
  simpa using this

def setE (e : Int → Option (List TN)) (x : Int) (y : List TN) : Int → Option (List TN) := fun k => if k = x then some y else e k
/-- are there types for the variables of a so that it becomes b? -/
def mtch : List TN → List TN → (Int → Option (List TN)) → Bool
  | [], _, _ => true
  | t :: a, b, e =>
    if t.1 = 1 then
      (match e t.2.1 with | some y => decide (y = b.take ((szM 1 b).getD 0)) | none => true) && mtch a (b.drop ((szM 1 b).getD 0)) (setE e t.2.1 (b.take ((szM 1 b).getD 0)))
    else match b with
      | [] => false
      | u :: b' => decide (t = u) && mtch a b' e
/-- variables have no children -/
def Leaves (ts : List TN) : Prop := ∀ t ∈ ts, t.1 = 1 → t.2.2 = 0
theorem mtch_len : ∀ (a b : List TN) (e : Int → Option (List TN)) (n : Nat), Leaves a → Full n a → Full n b → mtch a b e = true → a.length ≤ b.length := by
  intro a
  induction a with
  | nil => intro b e n _ _ _ _; simp
  | cons t a ih =>
    intro b e n hlv ha hb h
    obtain ⟨m, rfl⟩ := full_pos ha
    have hl' : Leaves a := fun u hu => hlv u (by simp [hu])
    unfold mtch at h
    by_cases hk : t.1 = 1
    · rw [if_pos hk, Bool.and_eq_true] at h
      obtain ⟨z, hz, z1, zl, hf⟩ := full_first hb
      rw [hz, Option.getD_some] at h
      have := ih _ _ m hl' (full_leaf ha (hlv t (by simp) hk)) hf h.2
      rw [List.length_drop] at this
      simp; omega
    · rw [if_neg hk] at h
      cases b with
      | nil => cases h
      | cons u b' =>
        rw [Bool.and_eq_true, decide_eq_true_eq] at h
        obtain ⟨rfl, h2⟩ := h
        have := ih _ _ _ hl' (full_cons ha) (full_cons hb) h2
        simp; omega
structure Flat (a b : List TN) (e : Int → Option (List TN)) : Prop where
  env : ∀ (i : Nat) (t u : TN) (y : List TN), a[i]? = some t → b[i]? = some u → t.1 = 1 → e t.2.1 = some y → y = [u]
  node : ∀ (i : Nat) (t u : TN), a[i]? = some t → b[i]? = some u → t.1 ≠ 1 → t = u
  var : ∀ (i j : Nat) (t u t' u' : TN), a[i]? = some t → b[i]? = some u → a[j]? = some t' → b[j]? = some u' → t.1 = 1 → t'.1 = 1 → t.2.1 = t'.2.1 → u = u'
theorem mtch_flat : ∀ (a b : List TN) (e : Int → Option (List TN)) (n : Nat), Leaves a → Full n a → Full n b → mtch a b e = true → a.length = b.length → Flat a b e := by
  intro a
  induction a with
  | nil =>
    intro b e n _ _ _ _ _
    exact ⟨fun i t u y h => by simp at h, fun i t u h => by simp at h, fun i j t u t' u' h => by simp at h⟩
  | cons t a ih =>
    intro b e n hlv ha hb h hlen
    obtain ⟨m, rfl⟩ := full_pos ha
    have hl' : Leaves a := fun u hu => hlv u (by simp [hu])
    unfold mtch at h
    cases b with
    | nil => simp at hlen
    | cons u b =>
    by_cases hk : t.1 = 1
    · rw [if_pos hk, Bool.and_eq_true] at h
      obtain ⟨z, hz, z1, zl, hf⟩ := full_first hb
      rw [hz, Option.getD_some] at h
      have h3 := mtch_len _ _ _ m hl' (full_leaf ha (hlv t (by simp) hk)) hf h.2
      rw [List.length_drop] at h3
      have hz1 : z = 1 := by simp at hlen h3 zl; omega
      subst hz1
      simp only [List.drop_succ_cons, List.drop_zero, List.take_succ_cons, List.take_zero] at h hf
      obtain ⟨q1, q2, q3⟩ := ih _ _ m hl' (full_leaf ha (hlv t (by simp) hk)) hf h.2 (by simpa using hlen)
      have hy : ∀ y, e t.2.1 = some y → y = [u] := by
        intro y hy
        have := h.1
        rw [hy] at this
        exact of_decide_eq_true this
      have hin : ∀ (i : Nat) (t' u' : TN), a[i]? = some t' → b[i]? = some u' → t'.1 = 1 → t'.2.1 = t.2.1 → u' = u := by
        intro i t' u' h1 h2 h3 h4
        have := q1 i t' u' [u] h1 h2 h3 (by unfold setE; rw [if_pos h4])
        simpa using this.symm
      refine ⟨fun i t' u' y h1 h2 h3 h4 => ?_, fun i t' u' h1 h2 h3 => ?_, fun i j t1 u1 t2 u2 h1 h2 h3 h4 k1 k2 he => ?_⟩
      · cases i with
        | zero =>
          simp only [List.getElem?_cons_zero, Option.some.injEq] at h1 h2
          subst h1; subst h2
          exact hy y h4
        | succ i =>
          simp only [List.getElem?_cons_succ] at h1 h2
          by_cases hx : t'.2.1 = t.2.1
          · rw [hin i t' u' h1 h2 h3 hx]; rw [hx] at h4; exact hy y h4
          · exact q1 i t' u' y h1 h2 h3 (by unfold setE; rw [if_neg hx]; exact h4)
      · cases i with
        | zero =>
          simp only [List.getElem?_cons_zero, Option.some.injEq] at h1
          subst h1; exact absurd hk h3
        | succ i => exact q2 i t' u' (by simpa using h1) (by simpa using h2) h3
      · cases i with
        | zero =>
          simp only [List.getElem?_cons_zero, Option.some.injEq] at h1 h2
          subst h1; subst h2
          cases j with
          | zero => simp only [List.getElem?_cons_zero, Option.some.injEq] at h4; exact h4
          | succ j => exact (hin j t2 u2 (by simpa using h3) (by simpa using h4) k2 he.symm).symm
        | succ i =>
          cases j with
          | zero =>
            simp only [List.getElem?_cons_zero, Option.some.injEq] at h3 h4
            subst h3; subst h4
            exact hin i t1 u1 (by simpa using h1) (by simpa using h2) k1 he
          | succ j => exact q3 i j t1 u1 t2 u2 (by simpa using h1) (by simpa using h2) (by simpa using h3) (by simpa using h4) k1 k2 he
    · rw [if_neg hk, Bool.and_eq_true, decide_eq_true_eq] at h
      obtain ⟨rfl, h2⟩ := h
      obtain ⟨q1, q2, q3⟩ := ih _ _ _ hl' (full_cons ha) (full_cons hb) h2 (by simpa using hlen)
      refine ⟨fun i t' u' y h1 h2 h3 h4 => ?_, fun i t' u' h1 h2 h3 => ?_, fun i j t1 u1 t2 u2 h1 h2 h3 h4 k1 k2 he => ?_⟩
      · cases i with
        | zero =>
          simp only [List.getElem?_cons_zero, Option.some.injEq] at h1
          subst h1; exact absurd h3 hk
        | succ i => exact q1 i t' u' y (by simpa using h1) (by simpa using h2) h3 h4
      · cases i with
        | zero =>
          simp only [List.getElem?_cons_zero, Option.some.injEq] at h1 h2
          exact h1.symm.trans h2
        | succ i => exact q2 i t' u' (by simpa using h1) (by simpa using h2) h3
      · cases i with
        | zero =>
          simp only [List.getElem?_cons_zero, Option.some.injEq] at h1
          subst h1; exact absurd k1 hk
        | succ i =>
          cases j with
          | zero =>
            simp only [List.getElem?_cons_zero, Option.some.injEq] at h3
            subst h3; exact absurd k2 hk
          | succ j => exact q3 i j t1 u1 t2 u2 (by simpa using h1) (by simpa using h2) (by simpa using h3) (by simpa using h4) k1 k2 he
theorem mtch_back : ∀ (a b : List TN) (e : Int → Option (List TN)), a.length = b.length → (∀ (i : Nat) (t u : TN), a[i]? = some t → b[i]? = some u → t.1 = 1 → u.2.2 = 0) → Flat a b e → mtch a b e = true := by
  intro a
  induction a with
  | nil => intro b e _ _ _; unfold mtch; rfl
  | cons t a ih =>
    intro b e hlen hz hf
    obtain ⟨q1, q2, q3⟩ := hf
    cases b with
    | nil => simp at hlen
    | cons u b =>
    unfold mtch
    have hz' : ∀ (i : Nat) (t u : TN), a[i]? = some t → b[i]? = some u → t.1 = 1 → u.2.2 = 0 := fun i t' u' h1 h2 => hz (i + 1) t' u' (by simpa using h1) (by simpa using h2)
    by_cases hk : t.1 = 1
    · rw [if_pos hk, szM_leaf (hz 0 t u rfl rfl hk)]
      simp only [Option.getD_some, List.take_succ_cons, List.take_zero, List.drop_succ_cons, List.drop_zero]
      rw [Bool.and_eq_true]
      refine ⟨?_, ih b _ (by simpa using hlen) hz' ⟨fun i t' u' y h1 h2 h3 h4 => ?_, fun i t' u' h1 h2 h3 => q2 (i + 1) t' u' (by simpa using h1) (by simpa using h2) h3, fun i j t1 u1 t2 u2 h1 h2 h3 h4 k1 k2 he => q3 (i + 1) (j + 1) t1 u1 t2 u2 (by simpa using h1) (by simpa using h2) (by simpa using h3) (by simpa using h4) k1 k2 he⟩⟩
      · cases he : e t.2.1 with
        | none => rfl
        | some y => exact decide_eq_true (q1 0 t u y rfl rfl hk he)
      · unfold setE at h4
        by_cases hx : t'.2.1 = t.2.1
        · rw [if_pos hx] at h4
          injection h4 with h4
          rw [← h4, q3 0 (i + 1) t u t' u' rfl rfl (by simpa using h1) (by simpa using h2) hk h3 hx.symm]
        · rw [if_neg hx] at h4
          exact q1 (i + 1) t' u' y (by simpa using h1) (by simpa using h2) h3 h4
    · rw [if_neg hk]
      simp only
      rw [Bool.and_eq_true, decide_eq_true_eq]
      exact ⟨q2 0 t u rfl rfl hk, ih b _ (by simpa using hlen) hz' ⟨fun i t' u' y h1 h2 h3 h4 => q1 (i + 1) t' u' y (by simpa using h1) (by simpa using h2) h3 h4, fun i t' u' h1 h2 h3 => q2 (i + 1) t' u' (by simpa using h1) (by simpa using h2) h3, fun i j t1 u1 t2 u2 h1 h2 h3 h4 k1 k2 he => q3 (i + 1) (j + 1) t1 u1 t2 u2 (by simpa using h1) (by simpa using h2) (by simpa using h3) (by simpa using h4) k1 k2 he⟩⟩
def noE : Int → Option (List TN) := fun _ => none
/-- two types are alike exactly if each one matches the other -/
theorem alike_iff {p q : List TN} (hp : Leaves p) (hq : Leaves q) (fp : Full 1 p) (fq : Full 1 q) : (mtch p q noE = true ∧ mtch q p noE = true) ↔ canonL p = canonL q := by
  rw [canon_iff]
  constructor
  · rintro ⟨h1, h2⟩
    have l1 := mtch_len _ _ _ 1 hp fp fq h1
    have l2 := mtch_len _ _ _ 1 hq fq fp h2
    have hl : p.length = q.length := by omega
    obtain ⟨_, a2, a3⟩ := mtch_flat _ _ _ 1 hp fp fq h1 hl
    obtain ⟨_, b2, b3⟩ := mtch_flat _ _ _ 1 hq fq fp h2 hl.symm
    have hv : ∀ (i : Nat) (t u : TN), p[i]? = some t → q[i]? = some u → t.1 = 1 → u.1 = 1 := by
      intro i t u e1 e2 k
      by_cases hu : u.1 = 1
      · exact hu
      · have := b2 i u t e2 e1 hu
        rw [this] at hu; exact absurd k hu
    refine ⟨hl, fun i t u e1 e2 => ?_, fun i j t u t' u' e1 e2 e3 e4 k1 k2 => ⟨fun e => by rw [a3 i j t u t' u' e1 e2 e3 e4 k1 k2 e], fun e => by rw [b3 i j u t u' t' e2 e1 e4 e3 (hv i t u e1 e2 k1) (hv j t' u' e3 e4 k2) e]⟩⟩
    by_cases hk : t.1 = 1
    · have hu := hv i t u e1 e2 hk
      exact .inl ⟨hk, hu, by rw [hp t (List.mem_of_getElem? e1) hk, hq u (List.mem_of_getElem? e2) hu]⟩
    · exact .inr ⟨hk, a2 i t u e1 e2 hk⟩
  · intro h
    have hs : ∀ {a b : List TN}, Alike a b → Leaves b → mtch a b noE = true := by
      intro a b h hb
      have hv : ∀ (i : Nat) (t u : TN), a[i]? = some t → b[i]? = some u → t.1 = 1 → u.1 = 1 ∧ u.2.2 = 0 := by
        intro i t u e1 e2 k
        rcases h.node i t u e1 e2 with ⟨_, k2, _⟩ | ⟨k2, _⟩
        · exact ⟨k2, hb u (List.mem_of_getElem? e2) k2⟩
        · exact absurd k k2
      refine mtch_back a b noE h.len (fun i t u e1 e2 k => (hv i t u e1 e2 k).2) ⟨fun i t u y _ _ _ e => (by cases e), fun i t u e1 e2 k => ?_, fun i j t u t' u' e1 e2 e3 e4 k1 k2 e => ?_⟩
      · rcases h.node i t u e1 e2 with ⟨k2, _⟩ | ⟨_, k2⟩
        · exact absurd k2 k
        · exact k2
      · obtain ⟨c1, c2⟩ := hv i t u e1 e2 k1
        obtain ⟨d1, d2⟩ := hv j t' u' e3 e4 k2
        have := (h.var i j t u t' u' e1 e2 e3 e4 k1 k2).1 e
        obtain ⟨x1, x2, x3⟩ := u
        obtain ⟨y1, y2, y3⟩ := u'
        simp only at c1 c2 d1 d2 this
        rw [c1, c2, d1, d2, this]
    have h' : Alike q p := by
      refine ⟨h.len.symm, fun i t u e1 e2 => ?_, fun i j t u t' u' e1 e2 e3 e4 k1 k2 => ?_⟩
      · rcases h.node i u t e2 e1 with ⟨a, b, c⟩ | ⟨a, b⟩
        · exact .inl ⟨b, a, c.symm⟩
        · exact .inr ⟨by rw [← b]; exact a, b.symm⟩
      · have hu : ∀ (i : Nat) (t u : TN), q[i]? = some t → p[i]? = some u → t.1 = 1 → u.1 = 1 := by
          intro i t u e1 e2 k
          rcases h.node i u t e2 e1 with ⟨a, _, _⟩ | ⟨a, b⟩
          · exact a
          · rw [b]; exact k
        exact (h.var i j u t u' t' e2 e1 e4 e3 (hu i t u e1 e2 k1) (hu j t' u' e3 e4 k2)).symm
    exact ⟨hs h hq, hs h' hp⟩

end Go.Proofs.YtcnanbmbdajcaaaDoor.M
