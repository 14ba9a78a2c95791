/- Matching with its result: the model. What the variables stand for at the end, that it makes the pattern the other type, that every instance of a type matches it, that the types found are valid, and that an ascending list of bindings is told by what it says of each variable. No program in it. No conditions. -/
import Derived.Test.YtcnanbmbdajcaaaDoorTyX6
import Derived.Test.YtcnanbmbdajcaaaDoorTyK
namespace Go.Proofs.YtcnanbmbdajcaaaDoor
open Go.RowKit M

namespace M
/-- what the variables stand for when a has been held against b -/
def finE : List TN → List TN → (Int → Option (List TN)) → (Int → Option (List TN))
  | [], _, e => e
  | t :: a, b, e =>
    if t.1 = 1 then finE a (b.drop ((szM 1 b).getD 0)) (setE e t.2.1 (b.take ((szM 1 b).getD 0)))
    else finE a b.tail e
end M
theorem finE_var {t : TN} {a b : List TN} {e : Int → Option (List TN)} {z : Nat} (hk : t.1 = 1) (hz : szM 1 b = some z) : finE (t :: a) b e = finE a (b.drop z) (setE e t.2.1 (b.take z)) := by
  conv => lhs; unfold finE
  rw [if_pos hk, hz]; rfl
theorem finE_node {t u : TN} {a b : List TN} {e : Int → Option (List TN)} (hk : t.1 ≠ 1) : finE (t :: a) (u :: b) e = finE a b e := by
  conv => lhs; unfold finE
  rw [if_neg hk]; rfl
theorem szM_app : ∀ (b c : List TN) (n z : Nat), szM n b = some z → szM n (b ++ c) = some z := by
  intro b
  induction b with
  | nil =>
    intro c n z h
    cases n with
    | zero => simp [szM] at h; subst h; simp [szM]
    | succ n => simp [szM] at h
  | cons t r ih =>
    intro c n z h
    cases n with
    | zero => simp [szM] at h; subst h; simp [szM]
    | succ n =>
      simp only [szM, Option.map_eq_some_iff, List.cons_append] at h ⊢
      obtain ⟨y, hy, rfl⟩ := h
      exact ⟨y, ih _ _ _ hy, rfl⟩
theorem full_zero {b : List TN} (h : Full 0 b) : b = [] := by
  unfold Full at h
  cases b with
  | nil => rfl
  | cons t r => simp [szM] at h
theorem szM_take : ∀ (b : List TN) (n z : Nat), szM n b = some z → Full n (b.take z) := by
  intro b
  induction b with
  | nil =>
    intro n z h
    cases n with
    | zero => simp [Full, szM]
    | succ n => simp [szM] at h
  | cons t r ih =>
    intro n z h
    cases n with
    | zero => simp [szM] at h; subst h; simp [Full, szM]
    | succ n =>
      simp only [szM, Option.map_eq_some_iff] at h
      obtain ⟨y, hy, rfl⟩ := h
      have := ih _ _ hy
      unfold Full at this ⊢
      simp only [List.take_succ_cons, szM, this, Option.map_some, List.length_cons]
theorem leaves_tail {t : TN} {a : List TN} (h : M.Leaves (t :: a)) : M.Leaves a := fun u hu => h u (by simp [hu])
/-- types one after another are matched one after another -/
theorem mtch_append : ∀ (a1 b1 : List TN) (e : Int → Option (List TN)) (n : Nat), M.Leaves a1 → Full n a1 → Full n b1 → ∀ a2 b2 : List TN,
    mtch (a1 ++ a2) (b1 ++ b2) e = (mtch a1 b1 e && mtch a2 b2 (finE a1 b1 e)) ∧ (mtch a1 b1 e = true → finE (a1 ++ a2) (b1 ++ b2) e = finE a2 b2 (finE a1 b1 e)) := by
  intro a1
  induction a1 with
  | nil =>
    intro b1 e n _ ha hb a2 b2
    have hn := full_nil ha
    subst hn
    have := full_zero hb
    subst this
    have h1 : mtch [] [] e = true := by unfold mtch; rfl
    have h2 : finE [] [] e = e := by unfold finE; rfl
    rw [List.nil_append, List.nil_append, h1, h2, Bool.true_and]
    exact ⟨rfl, fun _ => rfl⟩
  | cons t a ih =>
    intro b1 e n hlv ha hb a2 b2
    obtain ⟨m, rfl⟩ := full_pos ha
    have hl' := leaves_tail hlv
    by_cases hk : t.1 = 1
    · obtain ⟨z, hz, z1, zl, hf⟩ := full_first hb
      have hz2 := szM_app b1 b2 1 z hz
      obtain ⟨i1, i2⟩ := ih (b1.drop z) (setE e t.2.1 (b1.take z)) m hl' (full_leaf ha (hlv t (by simp) hk)) hf a2 b2
      rw [List.cons_append, mtch_var hk hz2, mtch_var hk hz, finE_var hk hz2, finE_var hk hz, List.take_append_of_le_length zl, List.drop_append_of_le_length zl]
      refine ⟨by rw [i1, Bool.and_assoc], fun h => ?_⟩
      rw [Bool.and_eq_true] at h
      exact i2 h.2
    · cases b1 with
      | nil => exact absurd (full_nil hb) (by omega)
      | cons u b1 =>
        rw [List.cons_append, List.cons_append, mtch_node hk, mtch_node hk, finE_node hk, finE_node hk]
        by_cases hu : t = u
        · subst hu
          obtain ⟨i1, i2⟩ := ih b1 e _ hl' (full_cons ha) (full_cons hb) a2 b2
          refine ⟨by rw [i1, Bool.and_assoc], fun h => ?_⟩
          rw [Bool.and_eq_true] at h
          exact i2 h.2
        · rw [decide_eq_false hu]
          exact ⟨by simp, fun h => by simp at h⟩
/-- what a variable stands for stays -/
theorem finE_keeps : ∀ (a b : List TN) (e : Int → Option (List TN)), mtch a b e = true → ∀ k y, e k = some y → finE a b e k = some y := by
  intro a
  induction a with
  | nil => intro b e _ k y h; unfold finE; exact h
  | cons t a ih =>
    intro b e h k y hy
    unfold mtch at h
    unfold finE
    by_cases hk : t.1 = 1
    · rw [if_pos hk, Bool.and_eq_true] at h
      rw [if_pos hk]
      refine ih _ _ h.2 k y ?_
      unfold setE
      by_cases hx : k = t.2.1
      · rw [if_pos hx]
        have := h.1
        rw [← hx, hy] at this
        rw [of_decide_eq_true this]
      · rw [if_neg hx]; exact hy
    · rw [if_neg hk] at h ⊢
      cases b with
      | nil => cases h
      | cons u b => rw [Bool.and_eq_true] at h; exact ih _ _ h.2 k y hy
namespace M
/-- a node replaced by what its variable stands for -/
def apO (f : Int → Option (List TN)) (t : TN) : List TN := if t.1 = 1 then (f t.2.1).getD [t] else [t]
def apF (f : Int → Option (List TN)) (ts : List TN) : List TN := ts.flatMap (apO f)
end M
theorem apL_lk (s : List Bd) (ts : List TN) : apL s ts = apF (lk s) ts := rfl
theorem apF_cons (f : Int → Option (List TN)) (t : TN) (a : List TN) : apF f (t :: a) = apO f t ++ apF f a := rfl
theorem mtch_sound : ∀ (a b : List TN) (e : Int → Option (List TN)) (n : Nat), M.Leaves a → Full n a → Full n b → mtch a b e = true → apF (finE a b e) a = b := by
  intro a
  induction a with
  | nil =>
    intro b e n _ ha hb _
    have hn := full_nil ha
    subst hn
    rw [full_zero hb]; rfl
  | cons t a ih =>
    intro b e n hlv ha hb h
    obtain ⟨m, rfl⟩ := full_pos ha
    have hl' := leaves_tail hlv
    by_cases hk : t.1 = 1
    · obtain ⟨z, hz, z1, zl, hf⟩ := full_first hb
      rw [mtch_var hk hz, Bool.and_eq_true] at h
      rw [finE_var hk hz, apF_cons, ih _ _ m hl' (full_leaf ha (hlv t (by simp) hk)) hf h.2]
      have := finE_keeps _ _ _ h.2 t.2.1 (b.take z) (by unfold setE; rw [if_pos rfl])
      unfold apO
      rw [if_pos hk, this, Option.getD_some, List.take_append_drop]
    · cases b with
      | nil => exact absurd (full_nil hb) (by omega)
      | cons u b =>
        rw [mtch_node hk, Bool.and_eq_true, decide_eq_true_eq] at h
        obtain ⟨rfl, h2⟩ := h
        rw [finE_node hk, apF_cons, ih _ _ _ hl' (full_cons ha) (full_cons hb) h2]
        unfold apO
        rw [if_neg hk]; rfl
theorem mtch_complete {f : Int → Option (List TN)} (hf : ∀ k y, f k = some y → Full 1 y) : ∀ (a : List TN) (e : Int → Option (List TN)), M.Leaves a → (∀ k y, e k = some y → y = (f k).getD [(1, k, 0)]) → mtch a (apF f a) e = true := by
  intro a
  induction a with
  | nil => intro e _ _; unfold mtch; rfl
  | cons t a ih =>
    intro e hlv he
    have hl' := leaves_tail hlv
    rw [apF_cons]
    by_cases hk : t.1 = 1
    · have h0 := hlv t (by simp) hk
      obtain ⟨k, v, c⟩ := t
      simp only at hk h0
      subst hk; subst h0
      have ho : apO f (1, v, 0) = (f v).getD [(1, v, 0)] := rfl
      have hfull : Full 1 (apO f (1, v, 0)) := by
        rw [ho]
        cases hv : f v with
        | none => simp [Full, szM]
        | some y => exact hf v y hv
      have hz : szM 1 (apO f (1, v, 0) ++ apF f a) = some (apO f (1, v, 0)).length := szM_app _ _ _ _ hfull
      rw [mtch_var rfl hz, List.take_left, List.drop_left]
      have h1 : (match e v with | some y => decide (y = apO f (1, v, 0)) | none => true) = true := by
        cases hv : e v with
        | none => rfl
        | some y => exact decide_eq_true (he v y hv)
      rw [Bool.and_eq_true]
      refine ⟨h1, ih _ hl' fun k y hy => ?_⟩
      unfold setE at hy
      by_cases hx : k = v
      · subst hx
        rw [if_pos rfl] at hy
        injection hy with hy
        rw [← hy, ho]
      · rw [if_neg hx] at hy; exact he k y hy
    · have ho : apO f t = [t] := by unfold apO; rw [if_neg hk]
      rw [ho, List.singleton_append, mtch_node hk, Bool.and_eq_true]
      exact ⟨by simp, ih e hl' he⟩

/-! parts of valid types are valid -/
theorem itK_sub {f : List TN → Option (List TN)} (hf : ∀ ts r, f ts = some r → ∀ i, i < ts.length - r.length → ∃ r', f (ts.drop i) = some r') (hd : ∀ ts r, f ts = some r → r = ts.drop (ts.length - r.length)) (hl : ∀ ts r, f ts = some r → r.length < ts.length) :
    ∀ n ts r, itK f n ts = some r → ∀ i, i < ts.length - r.length → ∃ r', f (ts.drop i) = some r' := by
  intro n
  induction n with
  | zero => intro ts r h i hi; simp only [itK, Option.some.injEq] at h; subst h; omega
  | succ n ih =>
    intro ts r h i hi
    unfold itK at h
    split at h
    · rename_i r1 h1
      by_cases hlt : i < ts.length - r1.length
      · exact hf ts r1 h1 i hlt
      · have q1 := hl _ _ h1
        have q2 := hd _ _ h1
        obtain ⟨r', hr⟩ := ih r1 r h (i - (ts.length - r1.length)) (by omega)
        refine ⟨r', ?_⟩
        have q3 := (congrArg (List.drop (i - (ts.length - r1.length))) q2).trans (List.drop_drop ..)
        rw [q3, show ts.length - r1.length + (i - (ts.length - r1.length)) = i by omega] at hr
        exact hr
    · cases h
theorem bt_part : ∀ d ts r, bt d ts = some r → ∀ i, i < ts.length - r.length → ∃ r', bt d (ts.drop i) = some r' := by
  intro d
  induction d with
  | zero => intro ts r h; cases h
  | succ d ih =>
    intro ts r h i hi
    cases ts with
    | nil => cases h
    | cons t l =>
      cases i with
      | zero => exact ⟨r, h⟩
      | succ i =>
        unfold bt at h
        split at h
        · obtain ⟨r', hr⟩ := itK_sub ih (bt_drop d) (bt_len d) _ _ _ h i (by simp at hi; omega)
          exact ⟨r', bt_up _ _ _ hr⟩
        · cases h
theorem itK_cut {f : List TN → Option (List TN)} (x : List TN) (hf : ∀ p q, f (p ++ x) = some (q ++ x) → f p = some q) (hd : ∀ ts r, f ts = some r → r = ts.drop (ts.length - r.length)) (hl : ∀ ts r, f ts = some r → r.length < ts.length) :
    ∀ n p q, itK f n (p ++ x) = some (q ++ x) → itK f n p = some q := by
  intro n
  induction n with
  | zero => intro p q h; simp only [itK, Option.some.injEq] at h ⊢; exact List.append_cancel_right h
  | succ n ih =>
    intro p q h
    unfold itK at h ⊢
    split at h
    · rename_i r1 h1
      have q1 := hl _ _ h1
      have q2 := hd _ _ h1
      have q3 := itK_len hl _ _ _ h
      simp only [List.length_append] at q1 q3 q2
      have q4 : r1 = p.drop (p.length + x.length - r1.length) ++ x := by
        conv => lhs; rw [q2]
        rw [List.drop_append_of_le_length (by omega)]
      rw [q4] at h1 h
      rw [hf _ _ h1]
      exact ih _ _ h
    · cases h
theorem bt_cut : ∀ d (x p q : List TN), bt d (p ++ x) = some (q ++ x) → bt d p = some q := by
  intro d
  induction d with
  | zero => intro x p q h; cases h
  | succ d ih =>
    intro x p q h
    cases p with
    | nil => have := bt_len _ _ _ h; simp at this; omega
    | cons t l =>
      rw [List.cons_append] at h
      unfold bt at h ⊢
      split at h
      · rename_i hv
        rw [if_pos hv]
        exact itK_cut x (ih x) (bt_drop d) (bt_len d) _ _ _ h
      · cases h
theorem part_valid {B : List TN} (h : valT B = true) {i z : Nat} (hi : i < B.length) (hz : szM 1 (B.drop i) = some z) : valT ((B.drop i).take z) = true := by
  have hl := valT_len h
  have hv := h
  unfold valT at hv
  rw [Bool.and_eq_true, decide_eq_true_eq, decide_eq_true_eq] at hv
  obtain ⟨r, hr⟩ := bt_part 64 B [] hv.2 i (by simpa using hi)
  obtain ⟨a1, a2⟩ := bt_full 64 _ _ hr 0
  rw [hz] at a1
  simp only [szM, Option.map_some, Option.some.injEq, Nat.zero_add] at a1
  have hd := bt_drop 64 _ _ hr
  rw [← a1] at hd
  have hc := bt_cut 64 r ((B.drop i).take z) [] (by
    rw [List.nil_append]
    have e : (B.drop i).take z ++ r = B.drop i := by
      conv => lhs; arg 2; rw [hd]
      exact List.take_append_drop _ _
    rw [e]; exact hr)
  exact valT_of (by decide : 64 ≤ 64) hc (by rw [List.length_take, List.length_drop]; omega)
theorem finE_valid {B : List TN} (hB : valT B = true) : ∀ (a b : List TN) (e : Int → Option (List TN)) (n i : Nat), b = B.drop i → M.Leaves a → Full n a → Full n b → mtch a b e = true → (∀ k y, e k = some y → valT y = true) → ∀ k y, finE a b e k = some y → valT y = true := by
  intro a
  induction a with
  | nil => intro b e n i _ _ _ _ _ he; unfold finE; exact he
  | cons t a ih =>
    intro b e n i hbi hlv ha hb h he
    obtain ⟨m, rfl⟩ := full_pos ha
    have hl' := leaves_tail hlv
    by_cases hk : t.1 = 1
    · obtain ⟨z, hz, z1, zl, hf⟩ := full_first hb
      rw [mtch_var hk hz, Bool.and_eq_true] at h
      rw [finE_var hk hz]
      have hil : i < B.length := by rw [hbi, List.length_drop] at zl; omega
      refine ih _ _ m (i + z) (by rw [hbi, List.drop_drop]) hl' (full_leaf ha (hlv t (by simp) hk)) hf h.2 fun k y hy => ?_
      unfold setE at hy
      by_cases hx : k = t.2.1
      · rw [if_pos hx] at hy
        injection hy with hy
        rw [← hy, hbi]
        rw [hbi] at hz
        exact part_valid hB hil hz
      · rw [if_neg hx] at hy; exact he k y hy
    · cases b with
      | nil => exact absurd (full_nil hb) (by omega)
      | cons u b =>
        rw [mtch_node hk, Bool.and_eq_true, decide_eq_true_eq] at h
        obtain ⟨rfl, h2⟩ := h
        rw [finE_node hk]
        have hil : i < B.length := by
          have := congrArg List.length hbi
          simp at this; omega
        refine ih _ _ _ (i + 1) ?_ hl' (full_cons ha) (full_cons hb) h2 he
        rw [List.drop_eq_getElem_cons hil] at hbi
        injection hbi

/-! ascending lists of bindings -/
structure Rep (s : List Bd) (e : Int → Option (List TN)) : Prop where
  asc : s.Pairwise fun a b => a.1 < b.1
  says : ∀ k, lk s k = e k
theorem lk_nil (k : Int) : lk [] k = none := rfl
theorem lk_cons (b : Bd) (s : List Bd) (k : Int) : lk (b :: s) k = if b.1 = k then some b.2 else lk s k := by
  unfold lk
  rw [List.find?_cons]
  by_cases h : b.1 = k
  · rw [if_pos h, decide_eq_true h]; rfl
  · rw [if_neg h, decide_eq_false h]
theorem lk_none {s : List Bd} {k : Int} (h : ∀ b ∈ s, b.1 ≠ k) : lk s k = none := by
  induction s with
  | nil => rfl
  | cons b s ih => rw [lk_cons, if_neg (h b (by simp))]; exact ih fun x hx => h x (by simp [hx])
theorem lk_mem {s : List Bd} {k : Int} {y : List TN} (h : lk s k = some y) : (k, y) ∈ s := by
  induction s with
  | nil => cases h
  | cons b s ih =>
    rw [lk_cons] at h
    split at h
    · rename_i hb
      injection h with h
      subst hb; subst h
      simp
    · exact List.mem_cons_of_mem _ (ih h)
theorem rep_unique : ∀ {s s' : List Bd} {e : Int → Option (List TN)}, Rep s e → Rep s' e → s = s' := by
  intro s
  induction s with
  | nil =>
    intro s' e h h'
    cases s' with
    | nil => rfl
    | cons b r =>
      have := (h.says b.1).trans (h'.says b.1).symm
      rw [lk_nil, lk_cons, if_pos rfl] at this
      cases this
  | cons a s ih =>
    intro s' e h h'
    cases s' with
    | nil =>
      have := (h'.says a.1).trans (h.says a.1).symm
      rw [lk_nil, lk_cons, if_pos rfl] at this
      cases this
    | cons b r =>
      obtain ⟨ha1, ha2⟩ := List.pairwise_cons.1 h.asc
      obtain ⟨hb1, hb2⟩ := List.pairwise_cons.1 h'.asc
      have e1 : lk (b :: r) a.1 = some a.2 := by rw [h'.says, ← h.says, lk_cons, if_pos rfl]
      have e2 : lk (a :: s) b.1 = some b.2 := by rw [h.says, ← h'.says, lk_cons, if_pos rfl]
      have hab : a.1 = b.1 := by
        have m1 := lk_mem e1
        have m2 := lk_mem e2
        rcases List.mem_cons.1 m1 with q1 | q1
        · exact congrArg (·.1) q1
        · rcases List.mem_cons.1 m2 with q2 | q2
          · exact (congrArg (·.1) q2).symm
          · have := hb1 _ q1; have := ha1 _ q2; simp at *; omega
      have hab2 : a = b := by
        rw [lk_cons, if_pos hab.symm] at e1
        injection e1 with e1
        exact Prod.ext hab e1.symm
      subst hab2
      congr 1
      refine ih (e := fun k => if a.1 = k then none else e k) ⟨ha2, fun k => ?_⟩ ⟨hb2, fun k => ?_⟩
      · by_cases hk : a.1 = k
        · rw [if_pos hk]; exact lk_none fun x hx => by have := ha1 x hx; omega
        · rw [if_neg hk, ← h.says, lk_cons, if_neg hk]
      · by_cases hk : a.1 = k
        · rw [if_pos hk]; exact lk_none fun x hx => by have := hb1 x hx; omega
        · rw [if_neg hk, ← h'.says, lk_cons, if_neg hk]
theorem lk_append (s r : List Bd) (k : Int) : lk (s ++ r) k = (lk s k).or (lk r k) := by
  induction s with
  | nil => rfl
  | cons b s ih =>
    rw [List.cons_append, lk_cons, lk_cons, ih]
    split <;> rfl
theorem rep_insert {s : List Bd} {e : Int → Option (List TN)} (h : Rep s e) {num : Int} (hn : e num = none) {y : List TN} {k : Nat} (hlt : ∀ b ∈ s.take k, b.1 < num) (hge : ∀ b, s[k]? = some b → num ≤ b.1) :
    Rep (s.take k ++ (num, y) :: s.drop k) (setE e num y) := by
  have hne : ∀ b ∈ s, b.1 ≠ num := fun b hb q => by
    have h1 := h.says num
    rw [hn] at h1
    have : ∀ (l : List Bd), lk l num = none → ∀ x ∈ l, x.1 ≠ num := by
      intro l
      induction l with
      | nil => intro _ x hx; simp at hx
      | cons c l ih =>
        intro hl x hx
        rw [lk_cons] at hl
        split at hl
        · cases hl
        · rename_i hc
          rcases List.mem_cons.1 hx with rfl | hx
          · exact hc
          · exact ih hl x hx
    exact this s h1 b hb q
  have hgt : ∀ b ∈ s.drop k, num < b.1 := by
    intro b hb
    cases hd : s.drop k with
    | nil => rw [hd] at hb; simp at hb
    | cons c r =>
      have hc : s[k]? = some c := by rw [← List.head?_drop, hd]; rfl
      have h1 := hge c hc
      have h2 := hne c (List.mem_of_getElem? hc)
      have h3 : (s.drop k).Pairwise fun a b => a.1 < b.1 := h.asc.sublist (List.drop_sublist _ _)
      rw [hd] at hb h3
      rcases List.mem_cons.1 hb with rfl | hb
      · omega
      · have := (List.pairwise_cons.1 h3).1 b hb; omega
  constructor
  · refine List.pairwise_append.2 ⟨h.asc.sublist (List.take_sublist _ _), List.pairwise_cons.2 ⟨hgt, h.asc.sublist (List.drop_sublist _ _)⟩, fun a ha b hb => ?_⟩
    have := hlt a ha
    rcases List.mem_cons.1 hb with rfl | hb
    · exact this
    · have := hgt b hb; omega
  · intro x
    rw [lk_append, lk_cons]
    unfold setE
    by_cases hx : x = num
    · subst hx
      rw [if_pos rfl, if_pos rfl, lk_none fun b hb => hne b (List.mem_of_mem_take hb)]; rfl
    · rw [if_neg hx, if_neg (fun q => hx q.symm), ← lk_append, List.take_append_drop]; exact h.says x
theorem rep_same {s : List Bd} {e : Int → Option (List TN)} (h : Rep s e) {num : Int} {y : List TN} (hn : e num = some y) : Rep s (setE e num y) :=
  ⟨h.asc, fun k => by rw [h.says]; unfold setE; split <;> simp_all⟩
theorem rep_keys {ss : List Int} {e : Int → Option (List TN)} (ha : ss.Pairwise (· < ·)) (hm : ∀ k, k ∈ ss ↔ (e k).isSome = true) : Rep (ss.map fun k => (k, (e k).getD [])) e := by
  constructor
  · exact List.pairwise_map.2 ha
  · intro k
    by_cases hk : k ∈ ss
    · obtain ⟨y, hy⟩ := Option.isSome_iff_exists.1 ((hm k).1 hk)
      rw [hy]
      have : ∀ l : List Int, k ∈ l → lk (l.map fun k => (k, (e k).getD [])) k = some y := by
        intro l
        induction l with
        | nil => intro h; simp at h
        | cons a l ih =>
          intro h
          rw [List.map_cons, lk_cons]
          by_cases hak : a = k
          · subst hak; rw [if_pos rfl, hy]; rfl
          · rw [if_neg hak]
            exact ih ((List.mem_cons.1 h).resolve_left fun q => hak q.symm)
      exact this ss hk
    · rw [lk_none]
      · cases he : e k with
        | none => rfl
        | some y => exact absurd ((hm k).2 (by rw [he]; rfl)) hk
      · intro b hb q
        obtain ⟨x, hx, rfl⟩ := List.mem_map.1 hb
        exact hk (q ▸ hx)
theorem subF_rep : ∀ (s : List Bd) (p : Option Int), s.Pairwise (fun a b => a.1 < b.1) → (∀ b ∈ s, valT b.2 = true) → (∀ v, p = some v → ∀ b ∈ s, v < b.1) → subF p s = true := by
  intro s
  induction s with
  | nil => intro p _ _ _; unfold subF; rfl
  | cons b s ih =>
    intro p ha hv hp
    obtain ⟨h1, h2⟩ := List.pairwise_cons.1 ha
    unfold subF
    rw [Bool.and_eq_true, Bool.and_eq_true]
    refine ⟨?_, hv b (by simp), ih _ h2 (fun x hx => hv x (by simp [hx])) fun v e x hx => by injection e with e; rw [← e]; exact h1 x hx⟩
    cases p with
    | none => rfl
    | some v => exact decide_eq_true (hp v rfl b (by simp))
/-- an instance of a type matches it, and what is found makes the type the instance -/
theorem match_instance {p i : List TN} {r : List Bd} (hi : applyM r p = i) (hne : i ≠ []) : matM p i = true ∧ ∀ s, Rep s (finE p i noE) → applyM s p = i := by
  unfold applyM at hi
  split at hi
  · rename_i hc
    rw [Bool.and_eq_true, Bool.and_eq_true] at hc
    obtain ⟨hp, hr, hv⟩ := hc
    rw [hi] at hv
    have hlv := leaves_valid hp
    have h1 : mtch p i noE = true := by
      rw [← hi, apL_lk]
      exact mtch_complete (fun k y hy => full_valid (subF_all r none hr (k, y) (lk_mem hy))) p noE hlv fun k y hy => by cases hy
    refine ⟨by unfold matM; rw [hp, hv, h1]; rfl, fun s hs => ?_⟩
    have h2 := mtch_sound p i noE 1 hlv (full_valid hp) (full_valid hv) h1
    have h3 : apL s p = i := by
      rw [apL_lk, show lk s = finE p i noE from funext hs.says]; exact h2
    have h4 : subst s = true := by
      refine subF_rep s none hs.asc (fun b hb => ?_) (fun v e => by cases e)
      have hlk : lk s b.1 = some b.2 := by
        have : ∀ l : List Bd, l.Pairwise (fun a b => a.1 < b.1) → b ∈ l → lk l b.1 = some b.2 := by
          intro l
          induction l with
          | nil => intro _ h; simp at h
          | cons c l ih =>
            intro ha h
            obtain ⟨k1, k2⟩ := List.pairwise_cons.1 ha
            rw [lk_cons]
            rcases List.mem_cons.1 h with rfl | h
            · rw [if_pos rfl]
            · rw [if_neg (by have := k1 b h; omega)]; exact ih k2 h
        exact this s hs.asc hb
      rw [hs.says] at hlk
      exact finE_valid hv p i noE 1 0 (by simp) hlv (full_valid hp) (full_valid hv) h1 (fun k y hy => by cases hy) b.1 b.2 hlk
    unfold applyM
    rw [hp, h4, h3, hv]; rfl
  · exact absurd hi.symm hne

end Go.Proofs.YtcnanbmbdajcaaaDoor
