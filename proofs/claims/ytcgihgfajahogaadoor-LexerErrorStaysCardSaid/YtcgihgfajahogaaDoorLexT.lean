/- What follows a line feed and a byte 1 changes nothing of a scan: a fact on the model. No program in it. -/
import Derived.Test.YtcgihgfajahogaaDoorLexS
namespace Go.Proofs.YtcgihgfajahogaaDoor.M
open Go

/-- a text that ends with a line feed -/
def NL (u : Bs) : Prop := ∃ v, u = v ++ [10]

theorem pre_nl (p : Bs) (h : ∀ c, c ∈ p → c ≠ 10) : ∀ (v y : Bs), p.isPrefixOf (v ++ 10 :: y) = p.isPrefixOf (v ++ [10]) := by
  induction p with
  | nil => intro v y; simp [List.isPrefixOf]
  | cons a p ih =>
    have ha := h a (by simp)
    have ih := ih (fun c hc => h c (by simp [hc]))
    intro v y
    cases v with
    | nil =>
      have : (a == (10 : UInt8)) = false := beq_eq_false_iff_ne.2 ha
      simp [List.isPrefixOf, this]
    | cons b v => simp only [List.cons_append, List.isPrefixOf]; rw [ih v y]

theorem firstP_nl (ps : List Bs) (h : ∀ p, p ∈ ps → ∀ c, c ∈ p → c ≠ 10) (v y : Bs) : firstP (v ++ 10 :: y) ps = firstP (v ++ [10]) ps := by
  induction ps with
  | nil => rfl
  | cons p ps ih =>
    have ih := ih (fun q hq => h q (by simp [hq]))
    unfold firstP
    rw [pre_nl p (h p (by simp)) v y, ih]

theorem symB_nl (v y : Bs) : symB (v ++ 10 :: y) = symB (v ++ [10]) := by
  cases v with
  | nil => rfl
  | cons c v =>
    show symOf c (c :: v ++ 10 :: y) = symOf c (c :: v ++ [10])
    generalize c :: v = w
    unfold symOf parenP
    rw [pre_nl [40, 124, 126] (by decide) w y, pre_nl [40, 124, 124] (by decide) w y]
    have hF : ∀ ps : List Bs, (ps.all fun p => p.all fun c => c != 10) = true → firstP (w ++ 10 :: y) ps = firstP (w ++ [10]) ps := fun ps h =>
      firstP_nl ps (fun p hp c hc => by simpa using List.all_eq_true.1 (List.all_eq_true.1 h p hp) c hc) w y
    rw [hF, hF, hF, hF, hF, hF, hF, hF, hF, hF, hF, hF, hF, hF, hF] <;> rfl

theorem wlen_nl (v y : Bs) : wlen (v ++ 10 :: y) = wlen v := by
  induction v with
  | nil => rfl
  | cons c v ih => rw [List.cons_append, wlen_cons, wlen_cons, ih]
theorem wordN_nl (v y : Bs) : wordN (v ++ 10 :: y) = wordN v := by
  cases v with
  | nil => rfl
  | cons c v =>
    show (if (letterB c || digitB c) = true then 1 + wlen (v ++ 10 :: y) else 0) = if (letterB c || digitB c) = true then 1 + wlen v else 0
    rw [wlen_nl]
theorem take_nl (v y : Bs) (n : Nat) (h : n ≤ v.length) : (v ++ y).take n = v.take n := by
  rw [List.take_append_of_le_length h]

theorem itemR_nl (v y : Bs) : itemR (v ++ 10 :: y) = itemR (v ++ [10]) := by
  unfold itemR
  have e1 := wordN_nl v y
  have e2 := wordN_nl v []
  rw [e1, e2, symB_nl, take_nl v _ _ (wordN_le v), take_nl v _ _ (wordN_le v)]
theorem itemN_nl (v y : Bs) : itemN (v ++ 10 :: y) = itemN (v ++ [10]) := by
  unfold itemN
  have e1 := wordN_nl v y
  have e2 := wordN_nl v []
  rw [e1, e2, symB_nl]
theorem lineN_nl (v y : Bs) : lineN (v ++ 10 :: y) = lineN (v ++ [10]) := by
  unfold lineN
  induction v with
  | nil => rfl
  | cons c v ih => simp only [List.cons_append, List.takeWhile_cons]; split <;> simp [ih]

theorem NL.drop {u : Bs} (h : NL u) (n : Nat) : u.drop n = [] ∨ NL (u.drop n) := by
  obtain ⟨v, rfl⟩ := h
  by_cases hn : n ≤ v.length
  · right; exact ⟨v.drop n, by rw [List.drop_append_of_le_length hn]⟩
  · left; exact List.drop_eq_nil_of_le (by simp; omega)

theorem pre2_len (a b : UInt8) (u : Bs) (h : [a, b].isPrefixOf u = true) : 2 ≤ u.length := by
  have := (List.isPrefixOf_iff_prefix.1 h).length_le
  simpa using this

theorem comF_some (f : Nat) : ∀ (d : Int) (u : Bs) (n m : Nat), (u = [] ∨ NL u) → comF f d u n = some m → ∀ (f' : Nat) (y : Bs), f ≤ f' → comF f' d (u ++ y) n = some m := by
  induction f with
  | zero => intro d u n m _ h; simp [comF] at h
  | succ f ih =>
    intro d u n m hu h f' y hf
    obtain ⟨f', rfl⟩ : ∃ g, f' = g + 1 := ⟨f' - 1, by omega⟩
    rcases hu with rfl | hu
    · simp [comF] at h
    have hu0 := hu
    obtain ⟨v, rfl⟩ := hu
    have e : (v ++ [10]) ++ y = v ++ 10 :: y := by simp
    have p1 := pre_nl [123, 45] (by decide) v y
    have p2 := pre_nl [45, 125] (by decide) v y
    have hd : ∀ k, k ≤ (v ++ [10]).length → (v ++ 10 :: y).drop k = (v ++ [10]).drop k ++ y := fun k hk => by
      rw [← e, List.drop_append_of_le_length hk]
    unfold comF at h ⊢
    rw [e, p1, p2]
    rw [if_neg (by simp)] at h ⊢
    by_cases h1 : [123, 45].isPrefixOf (v ++ [10]) = true
    · rw [if_pos h1] at h ⊢
      by_cases h2 : d + 1 = 0
      · rw [if_pos h2] at h ⊢; exact h
      · rw [if_neg h2] at h ⊢
        rw [hd 2 (pre2_len _ _ _ h1)]
        exact ih _ _ _ _ (hu0.drop 2) h f' y (by omega)
    rw [if_neg h1] at h ⊢
    by_cases h3 : [45, 125].isPrefixOf (v ++ [10]) = true
    · rw [if_pos h3] at h ⊢
      by_cases h2 : d - 1 = 0
      · rw [if_pos h2] at h ⊢; exact h
      · rw [if_neg h2] at h ⊢
        rw [hd 2 (pre2_len _ _ _ h3)]
        exact ih _ _ _ _ (hu0.drop 2) h f' y (by omega)
    rw [if_neg h3] at h ⊢
    by_cases h2 : d = 0
    · rw [if_pos h2] at h ⊢; exact h
    · rw [if_neg h2] at h ⊢
      rw [hd 1 (by simp)]
      exact ih _ _ _ _ (hu0.drop 1) h f' y (by omega)

theorem comF_none (f : Nat) : ∀ (d : Int) (u : Bs) (n : Nat), 1 ≤ d → (u = [] ∨ NL u) → u.length < f → comF f d u n = none → ∀ (f' : Nat), comF f' d (u ++ [1]) n = none := by
  induction f with
  | zero => intro d u n _ _ h; omega
  | succ f ih =>
    intro d u n hd1 hu hl h f'
    cases f' with
    | zero => rfl
    | succ f' =>
    rcases hu with rfl | hu
    · cases f' with
      | zero =>
        show (if ([] : Bs) ++ [1] = [] then none else _) = none
        rw [if_neg (by simp)]
        have a : [123, 45].isPrefixOf (([] : Bs) ++ [1]) = false := rfl
        have b : [45, 125].isPrefixOf (([] : Bs) ++ [1]) = false := rfl
        rw [a, b, if_neg (by decide), if_neg (by decide), if_neg (by omega)]
        rfl
      | succ f' =>
        show (if ([] : Bs) ++ [1] = [] then none else _) = none
        rw [if_neg (by simp)]
        have a : [123, 45].isPrefixOf (([] : Bs) ++ [1]) = false := rfl
        have b : [45, 125].isPrefixOf (([] : Bs) ++ [1]) = false := rfl
        rw [a, b, if_neg (by decide), if_neg (by decide), if_neg (by omega)]
        rfl
    have hu0 := hu
    obtain ⟨v, rfl⟩ := hu
    have e : (v ++ [10]) ++ [1] = v ++ 10 :: [1] := by simp
    have p1 := pre_nl [123, 45] (by decide) v [1]
    have p2 := pre_nl [45, 125] (by decide) v [1]
    have hd : ∀ k, k ≤ (v ++ [10]).length → (v ++ 10 :: [1]).drop k = (v ++ [10]).drop k ++ [1] := fun k hk => by
      rw [← e, List.drop_append_of_le_length hk]
    unfold comF at h ⊢
    rw [e, p1, p2]
    rw [if_neg (by simp)] at h ⊢
    have hl' : (v ++ [10]).length < f + 1 := hl
    by_cases h1 : [123, 45].isPrefixOf (v ++ [10]) = true
    · rw [if_pos h1] at h ⊢
      rw [if_neg (by omega)] at h ⊢
      have := pre2_len _ _ _ h1
      rw [hd 2 this]
      exact ih _ _ _ (by omega) (hu0.drop 2) (by rw [List.length_drop]; omega) h f'
    rw [if_neg h1] at h ⊢
    by_cases h3 : [45, 125].isPrefixOf (v ++ [10]) = true
    · rw [if_pos h3] at h ⊢
      by_cases h2 : d - 1 = 0
      · rw [if_pos h2] at h; cases h
      · rw [if_neg h2] at h ⊢
        have := pre2_len _ _ _ h3
        rw [hd 2 this]
        exact ih _ _ _ (by omega) (hu0.drop 2) (by rw [List.length_drop]; omega) h f'
    rw [if_neg h3] at h ⊢
    rw [if_neg (by omega)] at h ⊢
    rw [hd 1 (by simp)]
    exact ih _ _ _ hd1 (hu0.drop 1) (by rw [List.length_drop]; simp at hl' ⊢; omega) h f'

theorem comN_some (u : Bs) (m : Nat) (hu : NL u) (h : comN u = some m) (y : Bs) : comN (u ++ y) = some m := by
  unfold comN at h ⊢
  exact comF_some _ _ _ _ _ (.inr hu) h _ y (by rw [List.length_append]; omega)
theorem comN_none (u : Bs) (hu : NL u) (hp : [123, 45].isPrefixOf u = true) (h : comN u = none) : comN (u ++ [1]) = none := by
  have hl := pre2_len _ _ _ hp
  have hu0 := hu
  obtain ⟨v, rfl⟩ := hu
  have e : (v ++ [10]) ++ [1] = v ++ 10 :: [1] := by simp
  have p1 := pre_nl [123, 45] (by decide) v [1]
  have hp2 : [123, 45].isPrefixOf ((v ++ [10]) ++ [1]) = true := by rw [e, p1]; exact hp
  unfold comN comF at h ⊢
  rw [if_neg (by simp), if_pos hp, if_neg (by decide)] at h
  rw [if_neg (by simp), if_pos hp2, if_neg (by decide), List.drop_append_of_le_length hl]
  exact comF_none (v ++ [10]).length 1 _ _ (by decide) (hu0.drop 2) (by rw [List.length_drop]; omega) h _

theorem gap_some (u : Bs) (hu : NL u) (h : (gapR u).2 = true) (y : Bs) : gapR (u ++ y) = gapR u := by
  have hu0 := hu
  obtain ⟨v, rfl⟩ := hu
  have e : (v ++ [10]) ++ y = v ++ 10 :: y := by simp
  cases v with
  | nil => rfl
  | cons c v =>
    have hu0 : NL (c :: (v ++ [10])) := hu0
    have q1 := pre_nl [45, 45] (by decide) (c :: v) y
    have q2 := pre_nl [123, 45] (by decide) (c :: v) y
    have q3 := lineN_nl (c :: v) y
    rw [← e] at q1 q2 q3
    unfold gapR at h ⊢
    simp only [List.cons_append] at h q1 q2 q3 ⊢
    rw [q1, q2, q3]
    by_cases a : c.toNat = 32 ∨ c.toNat = 9 ∨ c.toNat = 13 ∨ c.toNat = 10
    · rw [if_pos a, if_pos a]
    rw [if_neg a] at h ⊢
    rw [if_neg a]
    by_cases b : c.toNat = 45 ∧ [45, 45].isPrefixOf (c :: (v ++ [10])) = true
    · rw [if_pos b, if_pos b]
    rw [if_neg b] at h ⊢
    rw [if_neg b]
    by_cases d : c.toNat = 123 ∧ [123, 45].isPrefixOf (c :: (v ++ [10])) = true
    · rw [if_pos d] at h ⊢
      rw [if_pos d]
      unfold comR at h ⊢
      cases hc : comN (c :: (v ++ [10])) with
      | none => rw [hc] at h; cases h
      | some m =>
        have := comN_some (c :: (v ++ [10])) m hu0 hc y
        simp only [List.cons_append] at this
        rw [this]
    · rw [if_neg d, if_neg d]

theorem gap_none (u : Bs) (hu : NL u) (h : (gapR u).2 = false) : (gapR (u ++ [1])).2 = false := by
  have hu0 := hu
  obtain ⟨v, rfl⟩ := hu
  have e : (v ++ [10]) ++ [1] = v ++ 10 :: [1] := by simp
  cases v with
  | nil => cases h
  | cons c v =>
    have hu0 : NL (c :: (v ++ [10])) := hu0
    have q1 := pre_nl [45, 45] (by decide) (c :: v) [1]
    have q2 := pre_nl [123, 45] (by decide) (c :: v) [1]
    rw [← e] at q1 q2
    unfold gapR at h ⊢
    simp only [List.cons_append] at h q1 q2 ⊢
    rw [q1, q2]
    by_cases a : c.toNat = 32 ∨ c.toNat = 9 ∨ c.toNat = 13 ∨ c.toNat = 10
    · rw [if_pos a] at h; cases h
    rw [if_neg a] at h ⊢
    by_cases b : c.toNat = 45 ∧ [45, 45].isPrefixOf (c :: (v ++ [10])) = true
    · rw [if_pos b] at h; cases h
    rw [if_neg b] at h ⊢
    by_cases d : c.toNat = 123 ∧ [123, 45].isPrefixOf (c :: (v ++ [10])) = true
    · rw [if_pos d] at h ⊢
      unfold comR at h ⊢
      cases hc : comN (c :: (v ++ [10])) with
      | some m => rw [hc] at h; cases h
      | none =>
        have := comN_none (c :: (v ++ [10])) hu0 d.2 hc
        simp only [List.cons_append] at this
        rw [this]
    · rw [if_neg d] at h; cases h


theorem skF_st (f : Nat) (l : Bs) (n : Nat) : skF (f + 1) l n = if (gapR l).2 = false ∨ (gapR l).1 = 0 then (n, (gapR l).2) else skF f (l.drop (gapR l).1) (n + (gapR l).1) := rfl

theorem skF_nl (f : Nat) : ∀ (u : Bs) (n f' : Nat) (x : Bs), (u = [] ∨ NL u) → u.length < f → u.length < f' → (skF f u n).2 = true → skF f' (u ++ 1 :: x) n = skF f u n := by
  induction f with
  | zero => intro u n f' x _ h; omega
  | succ f ih =>
    intro u n f' x hu hl hl' h
    obtain ⟨f', rfl⟩ : ∃ g, f' = g + 1 := ⟨f' - 1, by omega⟩
    rcases hu with rfl | hu
    · rfl
    rw [skF_st] at h ⊢
    rw [skF_st]
    by_cases hg : (gapR u).2 = false
    · rw [if_pos (.inl hg), hg] at h; cases h
    have hg1 : (gapR u).2 = true := by cases hh : (gapR u).2 with | true => rfl | false => exact absurd hh hg
    rw [gap_some u hu hg1]
    have hle := gapR_le u
    by_cases h0 : (gapR u).1 = 0
    · rw [if_pos (.inr h0), if_pos (.inr h0)]
    · have hc : ¬ ((gapR u).2 = false ∨ (gapR u).1 = 0) := by rintro (a | a); exact hg a; exact h0 a
      rw [if_neg hc] at h ⊢
      rw [if_neg hc, List.drop_append_of_le_length hle]
      exact ih _ _ _ x (hu.drop _) (by rw [List.length_drop]; omega) (by rw [List.length_drop]; omega) h

theorem skF_bad (f : Nat) : ∀ (u : Bs) (n f' : Nat), (u = [] ∨ NL u) → u.length < f → u.length < f' → (skF f u n).2 = false → (skF f' (u ++ [1]) n).2 = false := by
  induction f with
  | zero => intro u n f' _ h; omega
  | succ f ih =>
    intro u n f' hu hl hl' h
    obtain ⟨f', rfl⟩ : ∃ g, f' = g + 1 := ⟨f' - 1, by omega⟩
    rcases hu with rfl | hu
    · rw [skF_st] at h; cases h
    rw [skF_st] at h ⊢
    by_cases hg : (gapR u).2 = false
    · rw [if_pos (.inl (gap_none u hu hg))]; exact gap_none u hu hg
    have hg1 : (gapR u).2 = true := by cases hh : (gapR u).2 with | true => rfl | false => exact absurd hh hg
    rw [gap_some u hu hg1]
    have hle := gapR_le u
    by_cases h0 : (gapR u).1 = 0
    · rw [if_pos (.inr h0), hg1] at h; cases h
    · have hc : ¬ ((gapR u).2 = false ∨ (gapR u).1 = 0) := by rintro (a | a); exact hg a; exact h0 a
      rw [if_neg hc] at h ⊢
      rw [List.drop_append_of_le_length hle]
      exact ih _ _ _ (hu.drop _) (by rw [List.length_drop]; omega) (by rw [List.length_drop]; omega) h

theorem sk_nl (u : Bs) (x : Bs) (hu : u = [] ∨ NL u) (h : (sk u).2 = true) : sk (u ++ 1 :: x) = sk u := by
  unfold sk at h ⊢
  exact skF_nl _ u 0 _ x hu (by omega) (by simp; omega) h
theorem sk_bad (u : Bs) (hu : u = [] ∨ NL u) (h : (sk u).2 = false) : (sk (u ++ [1])).2 = false := by
  unfold sk at h ⊢
  exact skF_bad _ u 0 _ hu (by omega) (by simp; omega) h

theorem item_one (x : Bs) : itemR (1 :: x) = ⟨0, 0, [], 2⟩ := by
  unfold itemR
  have a : wordN (1 :: x) = 0 := rfl
  have b : symB (1 :: x) = [] := rfl
  rw [a, b]; rfl

theorem scF_stays (f : Nat) : ∀ (u : Bs) (p : Int × Int) (ts : List Tok), (u = [] ∨ NL u) → u.length < f →
    (∀ f', u.length < f' → (scF f' (u ++ [1]) p ts).2.2 ≠ 0) ∧
    ((scF f u p ts).2.2 = 0 → ∃ pos, ∀ (x : Bs) (f' : Nat), u.length < f' → scF f' (u ++ 1 :: x) p ts = ([], pos, 2)) := by
  induction f with
  | zero => intro u p ts _ h; omega
  | succ f ih =>
    intro u p ts hu hl
    cases hs : (sk u).2 with
    | false =>
      refine ⟨?_, ?_⟩
      · intro f' hf'
        obtain ⟨f', rfl⟩ : ∃ g, f' = g + 1 := ⟨f' - 1, by omega⟩
        rw [scF_step, if_pos (sk_bad u hu hs)]
        exact (by decide : (2 : Int) ≠ 0)
      · intro h
        rw [scF_step, if_pos hs] at h
        exact absurd h (by decide : ¬ (2 : Int) = 0)
    | true =>
      have hr := sk_le u
      have hdr : u.drop (sk u).1 = [] ∨ NL (u.drop (sk u).1) := by
        rcases hu with rfl | hu
        · left; simp
        · exact hu.drop _
      have key : ∀ x f', scF (f' + 1) (u ++ 1 :: x) p ts =
          if u.drop (sk u).1 ++ 1 :: x = [] then (ts, (0, 0), 0)
          else if itErr (itemR (u.drop (sk u).1 ++ 1 :: x)) ts.length ≠ 0 then ([], posA p (u.take (sk u).1), itErr (itemR (u.drop (sk u).1 ++ 1 :: x)) ts.length)
          else scF f' ((u.drop (sk u).1 ++ 1 :: x).drop (itemN (u.drop (sk u).1 ++ 1 :: x))) (posA (posA p (u.take (sk u).1)) ((u.drop (sk u).1 ++ 1 :: x).take (itemN (u.drop (sk u).1 ++ 1 :: x))))
            (ts ++ [(itemR (u.drop (sk u).1 ++ 1 :: x), posA p (u.take (sk u).1))]) := by
        intro x f'
        rw [scF_step, sk_nl u x hu hs, if_neg (by rw [hs]; decide), List.drop_append_of_le_length hr, List.take_append_of_le_length hr]
      rw [scF_step, if_neg (by rw [hs]; decide)]
      generalize hq : posA p (u.take (sk u).1) = q at key ⊢
      have hlen : (u.drop (sk u).1).length ≤ u.length := by rw [List.length_drop]; omega
      generalize u.drop (sk u).1 = v at key hdr hlen ⊢
      rcases hdr with rfl | hv
      · have hk : ∀ x f', scF (f' + 1) (u ++ 1 :: x) p ts = ([], q, 2) := by
          intro x f'
          rw [key x f']
          simp only [List.nil_append]
          have hi : itErr (itemR (1 :: x)) ts.length = 2 := by rw [item_one]; unfold itErr; rw [if_neg (by rintro ⟨h, _⟩; exact absurd h (by decide))]
          rw [if_neg (by simp), hi, if_pos (by decide)]
        refine ⟨?_, fun _ => ⟨q, ?_⟩⟩
        · intro f' hf'
          obtain ⟨f', rfl⟩ : ∃ g, f' = g + 1 := ⟨f' - 1, by omega⟩
          rw [hk [] f']
          exact (by decide : (2 : Int) ≠ 0)
        · intro x f' hf'
          obtain ⟨f', rfl⟩ : ∃ g, f' = g + 1 := ⟨f' - 1, by omega⟩
          exact hk x f'
      · have hv0 := hv
        obtain ⟨z, rfl⟩ := hv
        have e : ∀ x : Bs, (z ++ [10]) ++ 1 :: x = z ++ 10 :: (1 :: x) := fun x => by simp
        have i1 : ∀ x : Bs, itemR ((z ++ [10]) ++ 1 :: x) = itemR (z ++ [10]) := fun x => by rw [e, itemR_nl]
        have i2 : ∀ x : Bs, itemN ((z ++ [10]) ++ 1 :: x) = itemN (z ++ [10]) := fun x => by rw [e, itemN_nl]
        have hN := itemN_le (z ++ [10])
        have key2 : ∀ x f', scF (f' + 1) (u ++ 1 :: x) p ts = if itErr (itemR (z ++ [10])) ts.length ≠ 0 then ([], q, itErr (itemR (z ++ [10])) ts.length)
            else scF f' ((z ++ [10]).drop (itemN (z ++ [10])) ++ 1 :: x) (posA q ((z ++ [10]).take (itemN (z ++ [10])))) (ts ++ [(itemR (z ++ [10]), q)]) := by
          intro x f'
          rw [key x f', if_neg (by simp), i1, i2, List.drop_append_of_le_length hN, List.take_append_of_le_length hN]
        rw [if_neg (by simp)]
        by_cases her : itErr (itemR (z ++ [10])) ts.length ≠ 0
        · rw [if_pos her]
          refine ⟨?_, fun h => absurd h her⟩
          intro f' hf'
          obtain ⟨f', rfl⟩ : ∃ g, f' = g + 1 := ⟨f' - 1, by omega⟩
          rw [key2 [] f', if_pos her]
          exact her
        · rw [if_neg her]
          have h0 : itErr (itemR (z ++ [10])) ts.length = 0 := Classical.byContradiction her
          have he0 : (itemR (z ++ [10])).err = 0 := by
            unfold itErr at h0
            by_cases h5 : (itemR (z ++ [10])).err = 0 ∧ ts.length = 16384
            · exact h5.1
            · rw [if_neg h5] at h0; exact h0
          have hp := itemN_pos _ he0
          have hl2 : ((z ++ [10]).drop (itemN (z ++ [10]))).length < u.length := by rw [List.length_drop]; omega
          obtain ⟨r1, r2⟩ := ih ((z ++ [10]).drop (itemN (z ++ [10]))) (posA q ((z ++ [10]).take (itemN (z ++ [10])))) (ts ++ [(itemR (z ++ [10]), q)]) (hv0.drop _) (by omega)
          refine ⟨?_, ?_⟩
          · intro f' hf'
            obtain ⟨f', rfl⟩ : ∃ g, f' = g + 1 := ⟨f' - 1, by omega⟩
            rw [key2 [] f', if_neg her]
            exact r1 f' (by omega)
          · intro h
            obtain ⟨pos, hpos⟩ := r2 h
            refine ⟨pos, fun x f' hf' => ?_⟩
            obtain ⟨f', rfl⟩ : ∃ g, f' = g + 1 := ⟨f' - 1, by omega⟩
            rw [key2 x f', if_neg her]
            exact hpos x f' (by omega)

theorem scan_stays (v x : Bs) (hv : v.length ≤ 1000) (hx : x.length ≤ 1000) :
    (scan (v ++ [10, 1])).2.2 ≠ 0 ∧ ((scan (v ++ [10])).2.2 = 0 → ∃ pos, scan (v ++ [10, 1]) = ([], pos, 2) ∧ scan ((v ++ [10, 1]) ++ x) = ([], pos, 2)) := by
  have e1 : v ++ [10, 1] = (v ++ [10]) ++ [1] := by simp
  have e2 : (v ++ [10, 1]) ++ x = (v ++ [10]) ++ 1 :: x := by simp
  have hnl : v ++ [10] = [] ∨ NL (v ++ [10]) := .inr ⟨v, rfl⟩
  obtain ⟨r1, r2⟩ := scF_stays ((v ++ [10]).length + 1) (v ++ [10]) (1, 1) [] hnl (by omega)
  rw [e2, e1]
  unfold scan
  rw [if_neg (by simp; omega), if_neg (by simp; omega), if_neg (by simp; omega)]
  refine ⟨r1 _ (by simp), fun h => ?_⟩
  obtain ⟨pos, hp⟩ := r2 h
  exact ⟨pos, hp [] _ (by simp), hp x _ (by simp)⟩

end Go.Proofs.YtcgihgfajahogaaDoor.M
