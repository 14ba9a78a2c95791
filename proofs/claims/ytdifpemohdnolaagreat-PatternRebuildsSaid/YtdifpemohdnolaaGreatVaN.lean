/- Reading the parts of a value one after another, as the program does it: each part is held against the one before it at once. No program in it. No conditions. -/
import Derived.Test.YtdifpemohdnolaaGreatVaM
namespace Go.Proofs.YtdifpemohdnolaaGreat.VM

/-- is the part at place i held against another one? -/
def cmpAt (k : UInt8) (i : Nat) : Bool := decide (k = 5) || (decide (k = 6) && decide (i % 2 = 0))
def okAfter (f : V → V → Int) : Option V → V → Bool
  | none, _ => true
  | some u, v => decide (f u v < 0)
def goA (f : V → V → Int) (k : UInt8) : Nat → Option V → List V → Bool
  | _, _, [] => true
  | i, last, v :: l => if cmpAt k i = true then okAfter f last v && goA f k (i + 1) (some v) l else goA f k (i + 1) last l
def lp (f : V → V → Int) (rd : List UInt8 → Option (V × List UInt8)) (k : UInt8) : Nat → Nat → Option V → List UInt8 → Option (List UInt8)
  | 0, _, _, s => some s
  | n + 1, i, last, s => match rd s with
    | none => none
    | some (v, r) => if (i = 0 ∧ headOK k v = false) then none
      else if cmpAt k i = true then (if okAfter f last v = true then lp f rd k n (i + 1) (some v) r else none)
      else lp f rd k n (i + 1) last r
theorem headL_cons (k : UInt8) (v : V) (l : List V) : headL k (v :: l) = headOK k v := rfl
theorem lp_eq (f : V → V → Int) (rd : List UInt8 → Option (V × List UInt8)) (k : UInt8) : ∀ n i last s, lp f rd k n i last s = match decs rd n s with
    | none => none
    | some (l, r) => if ((i = 0 → headL k l = true) ∧ goA f k i last l = true) then some r else none := by
  intro n
  induction n with
  | zero => intro i last s; unfold lp decs; simp [headL, goA]
  | succ n ih =>
    intro i last s
    unfold lp decs
    cases h : rd s with
    | none => rfl
    | some q =>
      obtain ⟨v, r⟩ := q
      simp only
      by_cases hh : i = 0 ∧ headOK k v = false
      · rw [if_pos hh]
        cases decs rd n r with
        | none => rfl
        | some q2 =>
          simp only
          rw [if_neg (fun z => by have := z.1 hh.1; rw [headL_cons, hh.2] at this; cases this)]
      rw [if_neg hh]
      have hd : ∀ l : List V, (i = 0 → headL k (v :: l) = true) := fun l h0 => by
        rw [headL_cons]
        cases hv : headOK k v with
        | true => rfl
        | false => exact absurd ⟨h0, hv⟩ hh
      by_cases hc : cmpAt k i = true
      · rw [if_pos hc]
        by_cases ho : okAfter f last v = true
        · rw [if_pos ho, ih]
          cases decs rd n r with
          | none => rfl
          | some q2 =>
            obtain ⟨l, r2⟩ := q2
            simp only
            have e : goA f k i last (v :: l) = goA f k (i + 1) (some v) l := by
              conv => lhs; unfold goA
              rw [if_pos hc, ho, Bool.true_and]
            rw [e]
            by_cases hg : goA f k (i + 1) (some v) l = true
            · rw [if_pos ⟨fun q => by omega, hg⟩, if_pos ⟨hd l, hg⟩]
            · rw [if_neg (fun q => hg q.2), if_neg (fun q => hg q.2)]
        · rw [if_neg ho]
          cases decs rd n r with
          | none => rfl
          | some q2 =>
            obtain ⟨l, r2⟩ := q2
            simp only
            have e : goA f k i last (v :: l) = false := by
              conv => lhs; unfold goA
              rw [if_pos hc]
              cases hb : okAfter f last v with
              | true => exact absurd hb ho
              | false => rfl
            rw [if_neg (fun q => by rw [e] at q; cases q.2)]
      · rw [if_neg hc, ih]
        cases decs rd n r with
        | none => rfl
        | some q2 =>
          obtain ⟨l, r2⟩ := q2
          simp only
          have e : goA f k i last (v :: l) = goA f k (i + 1) last l := by
            conv => lhs; unfold goA
            rw [if_neg hc]
          rw [e]
          by_cases hg : goA f k (i + 1) last l = true
          · rw [if_pos ⟨fun q => by omega, hg⟩, if_pos ⟨hd l, hg⟩]
          · rw [if_neg (fun q => hg q.2), if_neg (fun q => hg q.2)]
theorem goA_set (f : V → V → Int) : ∀ (l : List V) (i : Nat) (u : V), goA f 5 i (some u) l = ascL f (u :: l) := by
  intro l
  induction l with
  | nil => intro i u; rfl
  | cons v l ih =>
    intro i u
    unfold goA
    rw [if_pos (by unfold cmpAt; simp), ih]
    rfl
theorem goA_map (f : V → V → Int) : ∀ (n : Nat) (l : List V), l.length ≤ n → ∀ (i : Nat), i % 2 = 0 → ∀ u : V, goA f 6 i (some u) l = ascL f (u :: evens l) := by
  intro n
  induction n with
  | zero =>
    intro l h i _ u
    have : l = [] := List.eq_nil_of_length_eq_zero (by omega)
    subst this; rfl
  | succ n ih =>
    intro l h i hi u
    match l, h with
    | [], _ => rfl
    | [v], _ =>
      unfold goA
      rw [if_pos (by unfold cmpAt; simp [hi])]
      rfl
    | v :: x :: l, h =>
      unfold goA
      rw [if_pos (by unfold cmpAt; simp [hi])]
      unfold goA
      rw [if_neg (by unfold cmpAt; simp; omega), ih l (by simp at h; omega) (i + 1 + 1) (by omega)]
      rfl
theorem goA_eq (f : V → V → Int) (k : UInt8) (l : List V) : goA f k 0 none l = ascOK f k l := by
  unfold ascOK
  by_cases h5 : k = 5
  · subst h5
    rw [if_pos rfl]
    cases l with
    | nil => rfl
    | cons v l =>
      unfold goA
      rw [if_pos (by unfold cmpAt; simp), goA_set]
      rfl
  rw [if_neg h5]
  by_cases h6 : k = 6
  · subst h6
    rw [if_pos rfl]
    match l with
    | [] => rfl
    | [v] => unfold goA; rw [if_pos (by unfold cmpAt; simp)]; rfl
    | v :: x :: l =>
      unfold goA
      rw [if_pos (by unfold cmpAt; simp)]
      unfold goA
      rw [if_neg (by unfold cmpAt; simp), goA_map f l.length l (Nat.le_refl _) 2 rfl]
      rfl
  rw [if_neg h6]
  have : ∀ (l : List V) (i : Nat) (o : Option V), goA f k i o l = true := by
    intro l
    induction l with
    | nil => intro i o; rfl
    | cons v l ih =>
      intro i o
      unfold goA
      rw [if_neg (by unfold cmpAt; simp [h5, h6]), ih]
  exact this l 0 none
/-- what the loop over the parts finds -/
theorem lp_all (f : V → V → Int) (rd : List UInt8 → Option (V × List UInt8)) (k : UInt8) (n : Nat) (s : List UInt8) : lp f rd k n 0 none s = match decs rd n s with
    | none => none
    | some (l, r) => if (headL k l && ascOK f k l) = true then some r else none := by
  rw [lp_eq]
  cases decs rd n s with
  | none => rfl
  | some q =>
    obtain ⟨l, r⟩ := q
    simp only
    rw [goA_eq]
    by_cases h : (headL k l && ascOK f k l) = true
    · rw [if_pos h]
      rw [Bool.and_eq_true] at h
      rw [if_pos ⟨fun _ => h.1, h.2⟩]
    · rw [if_neg h]
      rw [if_neg (fun q => h (by rw [q.1 trivial, q.2]; rfl))]

end Go.Proofs.YtdifpemohdnolaaGreat.VM
