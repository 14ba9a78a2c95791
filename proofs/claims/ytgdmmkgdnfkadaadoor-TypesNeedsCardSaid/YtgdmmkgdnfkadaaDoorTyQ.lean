/- The plain model of what classes a type needs. No program in it. No conditions. -/
import Derived.Test.YtgdmmkgdnfkadaaDoorTyV
import Derived.Test.YtgdmmkgdnfkadaaDoorSrt
namespace Go.Proofs.YtgdmmkgdnfkadaaDoor.M
open Go

/-- may a type that belongs to the classes have nodes of a kind? -/
def perm (k c : Int) : Bool :=
  if k = 1 ∨ k = 2 ∨ k = 3 ∨ k = 7 ∨ k = 10 then true
  else if k = 4 ∨ k = 6 ∨ k = 8 ∨ k = 9 ∨ k = 12 ∨ k = 13 then decide (c = 0 ∨ c = 1 ∨ c = 4 ∨ c = 5)
  else decide (c = 0)
/-- can a kind of types belong to a class? -/
def cls (k b : Int) : Bool :=
  if k = 1 ∨ k = 2 ∨ k = 3 ∨ k = 7 ∨ k = 10 then true
  else if k = 4 ∨ k = 6 ∨ k = 8 ∨ k = 9 ∨ k = 12 ∨ k = 13 then decide (b ≠ 2)
  else false
def insV (l : List Int) (v : Int) : List Int := l.takeWhile (fun x => decide (x < v)) ++ (if (l.dropWhile fun x => decide (x < v)).head? = some v then l.dropWhile fun x => decide (x < v) else v :: l.dropWhile fun x => decide (x < v))
def insN (l : List Int) (t : TN) : List Int := if t.1 = 1 then insV l t.2.1 else l
def needV (ts : List TN) : List Int := ts.foldl insN []

/-- strictly ascending -/
def Asc (l : List Int) : Prop := l.Pairwise (· < ·)
theorem asc_ext : ∀ {a b : List Int}, Asc a → Asc b → (∀ x, x ∈ a ↔ x ∈ b) → a = b := by
  intro a
  induction a with
  | nil =>
    intro b _ _ h
    cases b with
    | nil => rfl
    | cons y s => exact absurd ((h y).2 (by simp)) (by simp)
  | cons x r ih =>
    intro b ha hb h
    cases b with
    | nil => exact absurd ((h x).1 (by simp)) (by simp)
    | cons y s =>
      obtain ⟨a1, a2⟩ := List.pairwise_cons.1 ha
      obtain ⟨b1, b2⟩ := List.pairwise_cons.1 hb
      have hxy : x = y := by
        have h1 := (h x).1 (by simp)
        have h2 := (h y).2 (by simp)
        rcases List.mem_cons.1 h1 with e | e
        · exact e
        · rcases List.mem_cons.1 h2 with e2 | e2
          · exact e2.symm
          · have := b1 x e; have := a1 y e2; omega
      subst hxy
      congr 1
      refine ih a2 b2 fun z => ⟨fun hz => ?_, fun hz => ?_⟩
      · rcases List.mem_cons.1 ((h z).1 (by simp [hz])) with e | e
        · subst e; exact absurd (a1 z hz) (by omega)
        · exact e
      · rcases List.mem_cons.1 ((h z).2 (by simp [hz])) with e | e
        · subst e; exact absurd (b1 z hz) (by omega)
        · exact e
theorem insV_cons (a v : Int) (r : List Int) : insV (a :: r) v = if a < v then a :: insV r v else if a = v then a :: r else v :: a :: r := by
  unfold insV
  by_cases h : a < v
  · simp [h]
  · by_cases h2 : a = v
    · subst h2; simp
    · simp [h, h2]
theorem insV_mem (l : List Int) (v x : Int) : x ∈ insV l v ↔ x = v ∨ x ∈ l := by
  induction l with
  | nil => simp [insV]
  | cons a r ih =>
    rw [insV_cons]
    by_cases h : a < v
    · rw [if_pos h, List.mem_cons, ih, List.mem_cons]
      constructor
      · rintro (e | e | e) <;> simp [e]
      · rintro (e | e | e) <;> simp [e]
    · rw [if_neg h]
      by_cases h2 : a = v
      · rw [if_pos h2]; subst h2; simp
      · rw [if_neg h2]; simp
theorem insV_asc {l : List Int} (v : Int) (h : Asc l) : Asc (insV l v) := by
  induction l with
  | nil => simp [insV, Asc]
  | cons a r ih =>
    obtain ⟨h1, h2⟩ := List.pairwise_cons.1 h
    rw [insV_cons]
    by_cases ha : a < v
    · rw [if_pos ha]
      refine List.pairwise_cons.2 ⟨fun x hx => ?_, ih h2⟩
      rcases (insV_mem r v x).1 hx with e | e
      · rw [e]; exact ha
      · exact h1 x e
    · rw [if_neg ha]
      by_cases h3 : a = v
      · rw [if_pos h3]; exact h
      · rw [if_neg h3]
        refine List.pairwise_cons.2 ⟨fun x hx => ?_, h⟩
        rcases List.mem_cons.1 hx with e | e
        · rw [e]; omega
        · have := h1 x e; omega
/-- the variables of a list of nodes -/
def isVarOf (ts : List TN) (x : Int) : Prop := ∃ t ∈ ts, t.1 = 1 ∧ t.2.1 = x
theorem needV_spec : ∀ (ts : List TN) (acc : List Int), Asc acc → Asc (ts.foldl insN acc) ∧ ∀ x, x ∈ ts.foldl insN acc ↔ x ∈ acc ∨ isVarOf ts x := by
  intro ts
  induction ts with
  | nil => intro acc h; exact ⟨h, fun x => by simp [isVarOf]⟩
  | cons t r ih =>
    intro acc h
    have ha : Asc (insN acc t) := by unfold insN; split; exact insV_asc _ h; exact h
    obtain ⟨h1, h2⟩ := ih (insN acc t) ha
    refine ⟨h1, fun x => ?_⟩
    rw [List.foldl_cons, h2]
    unfold insN isVarOf
    by_cases hk : t.1 = 1
    · rw [if_pos hk, insV_mem]
      constructor
      · rintro ((e | e) | ⟨u, hu, q⟩)
        · exact .inr ⟨t, by simp, hk, e.symm⟩
        · exact .inl e
        · exact .inr ⟨u, by simp [hu], q⟩
      · rintro (e | ⟨u, hu, q1, q2⟩)
        · exact .inl (.inr e)
        · rcases List.mem_cons.1 hu with e | e
          · subst e; exact .inl (.inl q2.symm)
          · exact .inr ⟨u, e, q1, q2⟩
    · rw [if_neg hk]
      constructor
      · rintro (e | ⟨u, hu, q⟩)
        · exact .inl e
        · exact .inr ⟨u, by simp [hu], q⟩
      · rintro (e | ⟨u, hu, q1, q2⟩)
        · exact .inl e
        · rcases List.mem_cons.1 hu with e | e
          · subst e; exact absurd q1 hk
          · exact .inr ⟨u, e, q1, q2⟩
theorem varsL_spec : ∀ (ts : List TN) (acc : List Int), acc.Nodup → (ts.foldl addV acc).Nodup ∧ ∀ x, x ∈ ts.foldl addV acc ↔ x ∈ acc ∨ isVarOf ts x := by
  intro ts
  induction ts with
  | nil => intro acc h; exact ⟨h, fun x => by simp [isVarOf]⟩
  | cons t r ih =>
    intro acc h
    have ha : (addV acc t).Nodup := by
      unfold addV
      split
      · rename_i q; exact List.nodup_append.2 ⟨h, by simp, fun a ha b hb => by simp at hb; rintro rfl; exact q.2 (hb ▸ ha)⟩
      · exact h
    obtain ⟨h1, h2⟩ := ih (addV acc t) ha
    refine ⟨h1, fun x => ?_⟩
    rw [List.foldl_cons, h2]
    unfold addV isVarOf
    by_cases hk : t.1 = 1 ∧ t.2.1 ∉ acc
    · rw [if_pos hk, List.mem_append, List.mem_singleton]
      constructor
      · rintro ((e | e) | ⟨u, hu, q⟩)
        · exact .inl e
        · exact .inr ⟨t, by simp, hk.1, e.symm⟩
        · exact .inr ⟨u, by simp [hu], q⟩
      · rintro (e | ⟨u, hu, q1, q2⟩)
        · exact .inl (.inl e)
        · rcases List.mem_cons.1 hu with e | e
          · subst e; exact .inl (.inr q2.symm)
          · exact .inr ⟨u, e, q1, q2⟩
    · rw [if_neg hk]
      constructor
      · rintro (e | ⟨u, hu, q⟩)
        · exact .inl e
        · exact .inr ⟨u, by simp [hu], q⟩
      · rintro (e | ⟨u, hu, q1, q2⟩)
        · exact .inl e
        · rcases List.mem_cons.1 hu with e | e
          · subst e
            have : u.2.1 ∈ acc := Classical.byContradiction fun h3 => hk ⟨q1, h3⟩
            exact .inl (q2 ▸ this)
          · exact .inr ⟨u, e, q1, q2⟩
theorem sort_vars (ts : List TN) : sortI (varsL ts) = needV ts := by
  obtain ⟨v1, v2⟩ := varsL_spec ts [] (by simp)
  obtain ⟨n1, n2⟩ := needV_spec ts [] (by simp [Asc])
  have hp : (sortI (varsL ts)).Perm (varsL ts) := List.mergeSort_perm _ _
  refine asc_ext ?_ n1 fun x => ?_
  · have hs : (sortI (varsL ts)).Pairwise (fun a b => (decide (a ≤ b)) = true) := List.pairwise_mergeSort (le := fun x y : Int => decide (x ≤ y)) (fun a b c h1 h2 => by simp at *; omega) (fun a b => by simp; omega) _
    have hn : (sortI (varsL ts)).Nodup := hp.nodup_iff.2 v1
    exact (hs.and hn).imp fun {a b} h => by
      have h1 : a ≤ b := by simpa using h.1
      have h2 := h.2
      omega
  · rw [hp.mem_iff]
    show x ∈ ts.foldl addV [] ↔ x ∈ ts.foldl insN []
    rw [v2, n2]

end Go.Proofs.YtgdmmkgdnfkadaaDoor.M
