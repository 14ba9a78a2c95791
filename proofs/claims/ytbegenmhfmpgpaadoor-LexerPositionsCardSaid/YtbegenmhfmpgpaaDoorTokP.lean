/- Tokens of a scan stand at their positions, on the model. No program in it. -/
import Derived.Test.YtbegenmhfmpgpaaDoorLayX4
namespace Go.Proofs.YtbegenmhfmpgpaaDoor.M
open Go

theorem firstP_take (l : Bs) (ps : List Bs) : firstP l ps = l.take (firstP l ps).length := by
  induction ps with
  | nil => simp [firstP]
  | cons p ps ih =>
    unfold firstP
    split
    · rename_i h
      exact (List.prefix_iff_eq_take.1 (List.isPrefixOf_iff_prefix.1 h))
    · exact ih
theorem symB_take (l : Bs) : symB l = l.take (symB l).length := by
  unfold symB
  split
  · simp
  · rename_i c r
    have hi : ∀ (p : Prop) [Decidable p] (a b : Bs), a = (c :: r).take a.length → b = (c :: r).take b.length → (if p then a else b) = (c :: r).take (if p then a else b).length := by
      intro p _ a b ha hb; split <;> assumption
    have hp : parenP (c :: r) = (c :: r).take (parenP (c :: r)).length ∨ c ≠ 40 := by
      by_cases h40 : c = 40
      · left
        subst h40
        unfold parenP
        exact hi _ _ _ (by simp) (firstP_take _ _)
      · exact .inr h40
    rcases hp with hp | hp
    · unfold symOf
      refine hi _ _ _ (firstP_take _ _) (hi _ _ _ (firstP_take _ _) (hi _ _ _ (firstP_take _ _) (hi _ _ _ hp ?_)))
      iterate 11 refine hi _ _ _ (firstP_take _ _) ?_
      exact hi _ _ _ (by simp) (by simp)
    · unfold symOf
      refine hi _ _ _ (firstP_take _ _) (hi _ _ _ (firstP_take _ _) (hi _ _ _ (firstP_take _ _) ?_))
      rw [if_neg hp]
      iterate 11 refine hi _ _ _ (firstP_take _ _) ?_
      exact hi _ _ _ (by simp) (by simp)

theorem intVal_snoc (u : Bs) (c : UInt8) : intVal (u ++ [c]) = 10 * intVal u + (c.toNat - 48) := by
  unfold intVal; rw [List.foldl_append]; rfl
theorem all_snoc (u : Bs) (c : UInt8) (h : allDigits (u ++ [c]) = true) : allDigits u = true ∧ digitB c = true := by
  unfold allDigits at h ⊢
  rw [List.all_append] at h
  simpa using h
theorem dig_of (c : UInt8) (h : digitB c = true) : dig (c.toNat - 48) = c := by
  have hb : 48 ≤ c.toNat ∧ c.toNat ≤ 57 := by simpa [digitB] using h
  unfold dig
  rw [show 48 + (c.toNat - 48) = c.toNat by omega]
  exact UInt8.ofNat_toNat
theorem snoc_of {α : Type} (l : List α) (h : l ≠ []) : ∃ u c, l = u ++ [c] := ⟨l.dropLast, l.getLast h, (List.dropLast_concat_getLast h).symm⟩
theorem intVal_pos (u : Bs) (h : allDigits u = true) (hne : u ≠ []) (h0 : u.head? ≠ some 48) : intVal u ≠ 0 := by
  cases u with
  | nil => exact absurd rfl hne
  | cons c r =>
    simp only [allDigits, List.all_cons, Bool.and_eq_true] at h
    have hb : 48 ≤ c.toNat ∧ c.toNat ≤ 57 := by simpa [digitB] using h.1
    have hc : c.toNat ≠ 48 := fun q => h0 (by
      have : c = 48 := UInt8.toNat_inj.1 q
      rw [this]; rfl)
    unfold intVal
    rw [List.foldl_cons]
    have := foldl_ge r (10 * 0 + (c.toNat - 48))
    omega
theorem decF_val : ∀ (f : Nat) (u acc : Bs), allDigits u = true → u.head? ≠ some 48 → intVal u < 10 ^ f → decF f (intVal u) acc = u ++ acc := by
  intro f
  induction f with
  | zero =>
    intro u acc h h0 hf
    by_cases hne : u = []
    · subst hne; rfl
    · have := intVal_pos u h hne h0; simp at hf; omega
  | succ f ih =>
    intro u acc h h0 hf
    by_cases hne : u = []
    · subst hne; unfold decF; rw [if_pos (show intVal [] = 0 from rfl)]; rfl
    · have hp := intVal_pos u h hne h0
      obtain ⟨v, c, rfl⟩ := snoc_of u hne
      obtain ⟨hv, hc⟩ := all_snoc v c h
      have hb : 48 ≤ c.toNat ∧ c.toNat ≤ 57 := by simpa [digitB] using hc
      unfold decF
      rw [if_neg hp, intVal_snoc, show (10 * intVal v + (c.toNat - 48)) / 10 = intVal v by omega, show (10 * intVal v + (c.toNat - 48)) % 10 = c.toNat - 48 by omega, dig_of c hc]
      rw [intVal_snoc, Nat.pow_succ] at hf
      rw [ih v (c :: acc) hv ?_ (by omega), List.append_assoc]; rfl
      intro q
      apply h0
      cases v with
      | nil => cases q
      | cons d r => exact q
theorem decB_val (w : Bs) (h : allDigits w = true) (hne : w ≠ []) (h0 : ¬ (w.head? = some 48 ∧ w ≠ [48])) (hv : intVal w < 9223372036854775808) : decB (intVal w) = w := by
  obtain ⟨v, c, rfl⟩ := snoc_of w hne
  obtain ⟨ha, hc⟩ := all_snoc v c h
  have hb : 48 ≤ c.toNat ∧ c.toNat ≤ 57 := by simpa [digitB] using hc
  unfold decB
  rw [intVal_snoc] at hv
  rw [intVal_snoc, show (10 * intVal v + (c.toNat - 48)) / 10 = intVal v by omega, show (10 * intVal v + (c.toNat - 48)) % 10 = c.toNat - 48 by omega, dig_of c hc]
  refine decF_val 20 v [c] ha ?_ (by have : (10 : Nat) ^ 20 = 100000000000000000000 := by decide
                                     omega)
  intro q
  apply h0
  cases v with
  | nil => cases q
  | cons d r => exact ⟨q, by simp⟩
theorem wordN_head {l : Bs} (h : wordN l ≠ 0) : l.take (wordN l) ≠ [] := by
  have := wordN_le l
  intro q
  have : (l.take (wordN l)).length = 0 := by rw [q]; rfl
  rw [List.length_take] at this
  omega
/-- an item's text is what it is read from -/
theorem item_take (l : Bs) (h : (itemR l).err = 0) : textB (itemR l) = l.take (itemN l) ∧ ((itemR l).kind = 2 → 0 ≤ (itemR l).num) ∧ (itemR l).num ≤ 9223372036854775807 := by
  by_cases hw : wordN l ≠ 0
  · have hN : itemN l = wordN l := by unfold itemN; rw [if_pos hw]
    have hR : itemR l = wordR (l.take (wordN l)) := by unfold itemR; rw [if_pos hw]
    have hne := wordN_head hw
    rw [hR] at h ⊢
    rw [hN]
    generalize l.take (wordN l) = w at *
    unfold wordR at h ⊢
    by_cases h1 : (w.head?.map digitB) = some true
    · rw [if_pos h1] at h ⊢
      unfold intR at h ⊢
      by_cases h2 : w.head? = some 48 ∧ w ≠ [48]
      · rw [if_pos h2] at h; exact absurd h (by decide)
      rw [if_neg h2] at h ⊢
      by_cases h3 : allDigits w = false
      · rw [if_pos h3] at h; exact absurd h (by decide)
      rw [if_neg h3] at h ⊢
      by_cases h4 : intVal w < 9223372036854775808
      · rw [if_pos h4]
        refine ⟨?_, fun _ => by simp only; omega, by simp only; omega⟩
        show decB ((intVal w : Int)).toNat = w
        rw [Int.toNat_natCast]
        exact decB_val w (by simpa using h3) hne h2 h4
      · rw [if_neg h4] at h; exact absurd h (by decide)
    · rw [if_neg h1] at h ⊢
      by_cases h2 : kwB w = true
      · rw [if_pos h2]; exact ⟨rfl, fun q => absurd (show (3 : Int) = 2 from q) (by decide), show (0 : Int) ≤ 9223372036854775807 by decide⟩
      rw [if_neg h2] at h ⊢
      by_cases h3 : w.length ≤ 64
      · rw [if_pos h3]; exact ⟨rfl, fun q => absurd (show (1 : Int) = 2 from q) (by decide), show (0 : Int) ≤ 9223372036854775807 by decide⟩
      · rw [if_neg h3] at h; exact absurd h (by decide)
  · have hN : itemN l = (symB l).length := by unfold itemN; rw [if_neg hw]
    have hR : itemR l = if symB l ≠ [] then ⟨4, 0, symB l, 0⟩ else ⟨0, 0, [], 2⟩ := by unfold itemR; rw [if_neg hw]
    rw [hR] at h ⊢
    rw [hN]
    by_cases h1 : symB l ≠ []
    · rw [if_pos h1]; exact ⟨symB_take l, fun q => absurd (show (4 : Int) = 2 from q) (by decide), show (0 : Int) ≤ 9223372036854775807 by decide⟩
    · rw [if_neg h1] at h; exact absurd h (by decide)

/-- a token's text stands at an offset, and the offset's position is the token's -/
structure Spot (L : Bs) (o : Nat) (t : Tok) : Prop where
  text : (L.drop o).take (textB t.1).length = textB t.1
  fits : o + (textB t.1).length ≤ L.length
  pos : posA (1, 1) (L.take o) = t.2
  num0 : t.1.kind = 2 → 0 ≤ t.1.num
  num1 : t.1.num ≤ 9223372036854775807
def Spots (L : Bs) (o : Nat) (g : Nat → Nat) (ts : List Tok) : Prop := ∀ k t, ts[k]? = some t → Spot L (g k) t ∧ (∀ j, j < k → g j < g k) ∧ g k < o

theorem scF_spots (L : Bs) (f : Nat) : ∀ (o : Nat) (ts : List Tok) (g : Nat → Nat), o ≤ L.length → Spots L o g ts → (scF f (L.drop o) (posA (1, 1) (L.take o)) ts).2.2 = 0 → (L.drop o).length < f →
    ∃ g', Spots L (L.length + 1) g' (scF f (L.drop o) (posA (1, 1) (L.take o)) ts).1 := by
  induction f with
  | zero => intro o ts g ho hs _ hf; omega
  | succ f ih =>
    intro o ts g ho hs he hf
    rw [scF_step] at he ⊢
    have hsk := sk_le (L.drop o)
    rw [List.length_drop] at hsk hf
    by_cases h1 : (sk (L.drop o)).2 = false
    · rw [if_pos h1] at he; exact absurd (show (2 : Int) = 0 from he) (by decide)
    rw [if_neg h1] at he ⊢
    by_cases h2 : (L.drop o).drop (sk (L.drop o)).1 = []
    · rw [if_pos h2]
      exact ⟨g, fun k t ht => ⟨(hs k t ht).1, (hs k t ht).2.1, by have := (hs k t ht).2.2; omega⟩⟩
    rw [if_neg h2] at he ⊢
    by_cases h3 : itErr (itemR ((L.drop o).drop (sk (L.drop o)).1)) ts.length ≠ 0
    · rw [if_pos h3] at he; exact absurd he h3
    rw [if_neg h3] at he ⊢
    have h3 := Classical.not_not.1 h3
    have herr : (itemR ((L.drop o).drop (sk (L.drop o)).1)).err = 0 := by
      unfold itErr at h3
      split at h3
      · exact absurd h3 (by decide)
      · exact h3
    obtain ⟨n, hn⟩ : ∃ n, (sk (L.drop o)).1 = n := ⟨_, rfl⟩
    rw [hn] at he hsk h2 h3 herr ⊢
    have e1 : posA (posA (1, 1) (L.take o)) ((L.drop o).take n) = posA (1, 1) (L.take (o + n)) := by rw [← posA_append, List.take_add]
    have e0 : (L.drop o).drop n = L.drop (o + n) := List.drop_drop
    rw [e0] at he h2 h3 herr ⊢
    have hN := itemN_le (L.drop (o + n))
    have hP := itemN_pos (L.drop (o + n)) herr
    obtain ⟨i1, i2, i3⟩ := item_take (L.drop (o + n)) herr
    obtain ⟨m, hm⟩ : ∃ m, itemN (L.drop (o + n)) = m := ⟨_, rfl⟩
    rw [hm] at he hN hP i1 ⊢
    rw [List.length_drop] at hN
    have e2 : posA (posA (posA (1, 1) (L.take o)) ((L.drop o).take n)) ((L.drop (o + n)).take m) = posA (1, 1) (L.take (o + n + m)) := by
      rw [e1, ← posA_append, ← List.take_add]
    rw [e1] at he ⊢
    rw [e1] at e2
    rw [e2, List.drop_drop] at he ⊢
    refine ih (o + n + m) _ (fun k => if k < ts.length then g k else o + n) (by omega) ?_ he (by rw [List.length_drop]; omega)
    have hl : (textB (itemR (L.drop (o + n)))).length = m := by rw [i1, List.length_take, List.length_drop]; omega
    intro k t ht
    rcases Nat.lt_trichotomy k ts.length with hk | hk | hk
    · rw [List.getElem?_append_left hk] at ht
      obtain ⟨s1, s2, s3⟩ := hs k t ht
      simp only [if_pos hk]
      refine ⟨s1, fun j hj => ?_, by omega⟩
      rw [if_pos (by omega)]; exact s2 j hj
    · subst hk
      rw [List.getElem?_append_right (Nat.le_refl _), Nat.sub_self] at ht
      have ht : some (itemR (L.drop (o + n)), posA (1, 1) (L.take (o + n))) = some t := ht
      injection ht with ht
      subst ht
      simp only [if_neg (Nat.lt_irrefl _)]
      refine ⟨⟨by simp only [hl]; rw [i1], by simp only [hl]; omega, rfl, i2, i3⟩, fun j hj => ?_, by omega⟩
      rw [if_pos hj]
      have := (hs j _ (List.getElem?_eq_getElem hj)).2.2
      omega
    · rw [List.getElem?_append_right (by omega)] at ht
      rw [List.getElem?_eq_none (by simp; omega)] at ht; cases ht

theorem scan_spots (L : Bs) (he : (scan L).2.2 = 0) : ∃ g, Spots L (L.length + 1) g (scan L).1 := by
  unfold scan at he ⊢
  by_cases h : 65536 < L.length
  · rw [if_pos h] at he; exact absurd he (by decide)
  · rw [if_neg h] at he ⊢
    exact scF_spots L (L.length + 1) 0 [] (fun _ => 0) (by omega) (fun k t ht => by simp at ht) he (by simp)

/-- positions ascend -/
theorem step_lt (p : Int × Int) (c : UInt8) : p.1 < (stepP p c).1 ∨ p.1 = (stepP p c).1 ∧ p.2 < (stepP p c).2 := by
  unfold stepP
  split
  · left; simp only; omega
  · right; exact ⟨rfl, by show p.2 < p.2 + 1; omega⟩
theorem posA_le (l : Bs) : ∀ p : Int × Int, l ≠ [] → p.1 < (posA p l).1 ∨ p.1 = (posA p l).1 ∧ p.2 < (posA p l).2 := by
  induction l with
  | nil => intro p h; exact absurd rfl h
  | cons c r ih =>
    intro p _
    show p.1 < (posA (stepP p c) r).1 ∨ p.1 = (posA (stepP p c) r).1 ∧ p.2 < (posA (stepP p c) r).2
    have h1 := step_lt p c
    by_cases hr : r = []
    · subst hr; exact h1
    · have h2 := ih (stepP p c) hr
      omega
theorem pos_ne (L : Bs) (i j : Nat) (h : i < j) (hj : j ≤ L.length) : posA (1, 1) (L.take i) ≠ posA (1, 1) (L.take j) := by
  obtain ⟨d, rfl⟩ : ∃ d, j = i + d := ⟨j - i, by omega⟩
  rw [List.take_add, posA_append]
  have := posA_le ((L.drop i).take d) (posA (1, 1) (L.take i)) (by
    intro q
    have : ((L.drop i).take d).length = 0 := by rw [q]; rfl
    rw [List.length_take, List.length_drop] at this; omega)
  intro q
  rw [← q] at this
  omega
theorem pos_next (L : Bs) (i : Nat) (c : UInt8) (h : L[i]? = some c) : posA (1, 1) (L.take (i + 1)) = stepP (posA (1, 1) (L.take i)) c := by
  rw [List.take_add_one, h, posA_append]; rfl

end Go.Proofs.YtbegenmhfmpgpaaDoor.M
