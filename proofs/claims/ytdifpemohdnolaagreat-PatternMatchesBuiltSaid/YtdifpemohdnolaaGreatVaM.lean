/- The plain model of values: trees, their encodings, how an encoding is read, the order. No program in it. No conditions. -/
namespace Go.Proofs.YtdifpemohdnolaaGreat.VM

/-- a value: an integer (its eight bytes), a boolean, a name (its two bytes), or a kind with parts -/
inductive V where
  | int (l : List UInt8)
  | bool (b : UInt8)
  | name (a b : UInt8)
  | comp (k : UInt8) (l : List V)

/-- the number of eight bytes, the most significant first -/
def natL (l : List UInt8) : Nat := l.foldl (fun n b => n * 256 + b.toNat) 0
def signed (n : Nat) : Int := if n < 9223372036854775808 then (n : Int) else (n : Int) - 18446744073709551616
def numL (l : List UInt8) : Int := signed (natL l)
def u16 (a b : UInt8) : Nat := a.toNat * 256 + b.toNat
def sgn (a b : Int) : Int := if a < b then -1 else if b < a then 1 else 0
def V.kind : V → UInt8
  | .int _ => 1
  | .bool _ => 2
  | .name _ _ => 10
  | .comp k _ => k
/-- the order: by kinds, then by numbers or by parts -/
def ord : Nat → V → V → Int
  | 0, _, _ => 0
  | d + 1, x, y =>
    if x.kind ≠ y.kind then sgn x.kind.toNat y.kind.toNat
    else match x, y with
      | .int l, .int m => sgn (numL l) (numL m)
      | .bool a, .bool b => sgn a.toNat b.toNat
      | .name a b, .name a' b' => sgn (u16 a b) (u16 a' b')
      | .comp _ l, .comp _ m => ordL (ord d) l m
      | _, _ => 0
where
  /-- lists: by the first parts that differ -/
  ordL (f : V → V → Int) : List V → List V → Int
    | [], [] => 0
    | [], _ :: _ => -1
    | _ :: _, [] => 1
    | a :: l, b :: m => if f a b ≠ 0 then f a b else ordL f l m
def ascL (f : V → V → Int) : List V → Bool
  | [] => true
  | [_] => true
  | a :: b :: l => decide (f a b < 0) && ascL f (b :: l)
def evens : List V → List V
  | [] => []
  | [a] => [a]
  | a :: _ :: l => a :: evens l
/-- how many parts a kind may have -/
def countOK (k : UInt8) (n : Nat) : Bool :=
  if k = 3 then decide (2 ≤ n ∧ n ≤ 8) else if k = 6 then decide (n % 2 = 0) else if k = 7 then decide (1 ≤ n ∧ n ≤ 9) else if k = 8 then decide (1 ≤ n ∧ n ≤ 33) else if k = 9 then decide (1 ≤ n) else true
/-- which first part a kind may have -/
def headOK (k : UInt8) : V → Bool
  | .name _ _ => decide (k ≠ 8 ∧ k ≠ 9)
  | .int l => if k = 7 then false else if k = 8 then decide (0 ≤ numL l ∧ numL l ≤ 65535) else if k = 9 then decide (1 ≤ numL l ∧ numL l ≤ 21) else true
  | _ => decide (k ≠ 7 ∧ k ≠ 8 ∧ k ≠ 9)
def headL (k : UInt8) : List V → Bool
  | [] => true
  | a :: _ => headOK k a
def ascOK (f : V → V → Int) (k : UInt8) (l : List V) : Bool := if k = 5 then ascL f l else if k = 6 then ascL f (evens l) else true
/-- may these be the parts of a value of this kind? -/
def parted (f : V → V → Int) (k : UInt8) (l : List V) : Bool := countOK k l.length && (headL k l && ascOK f k l)
def isComp (k : UInt8) : Bool := decide (3 ≤ k.toNat ∧ k.toNat ≤ 9)
/-- n values, one after another -/
def decs (f : List UInt8 → Option (V × List UInt8)) : Nat → List UInt8 → Option (List V × List UInt8)
  | 0, s => some ([], s)
  | n + 1, s => match f s with
    | none => none
    | some (v, r) => match decs f n r with
      | none => none
      | some (l, r') => some (v :: l, r')
/-- the value that begins some bytes, nested at most d deep, and what lies behind it -/
def dec : Nat → List UInt8 → Option (V × List UInt8)
  | 0, _ => none
  | _ + 1, [] => none
  | d + 1, k :: r =>
    if k = 1 then (if 8 ≤ r.length then some (.int (r.take 8), r.drop 8) else none)
    else if k = 2 then (match r with
      | [] => none
      | b :: r' => if b.toNat ≤ 1 then some (.bool b, r') else none)
    else if k = 10 then (match r with
      | a :: b :: r' => some (.name a b, r')
      | _ => none)
    else if isComp k = true then (match r with
      | a :: b :: r' => (match decs (dec d) (u16 a b) r' with
        | some (l, r'') => if parted (ord d) k l = true then some (.comp k l, r'') else none
        | none => none)
      | _ => none)
    else none
def enc : V → List UInt8
  | .int l => 1 :: l
  | .bool b => [2, b]
  | .name a b => [10, a, b]
  | .comp k l => k :: UInt8.ofNat (l.length / 256) :: UInt8.ofNat l.length :: encs l
where
  encs : List V → List UInt8
    | [] => []
    | a :: l => enc a ++ encs l
abbrev encs := enc.encs
/-- a valid value that is nested at most d deep -/
def wf : Nat → V → Bool
  | 0, _ => false
  | _ + 1, .int l => decide (l.length = 8)
  | _ + 1, .bool b => decide (b.toNat ≤ 1)
  | _ + 1, .name _ _ => true
  | d + 1, .comp k l => isComp k && (decide (l.length < 65536) && (l.all (wf d) && parted (ord d) k l))

theorem decs_ok {f : List UInt8 → Option (V × List UInt8)} {p : V → Bool} (hf : ∀ s v r, f s = some (v, r) → s = enc v ++ r ∧ p v = true) :
    ∀ n s l r, decs f n s = some (l, r) → s = encs l ++ r ∧ l.length = n ∧ l.all p = true := by
  intro n
  induction n with
  | zero => intro s l r h; simp only [decs, Option.some.injEq, Prod.mk.injEq] at h; obtain ⟨rfl, rfl⟩ := h; exact ⟨by simp [encs, enc.encs], rfl, rfl⟩
  | succ n ih =>
    intro s l r h
    unfold decs at h
    cases h1 : f s with
    | none => rw [h1] at h; cases h
    | some q =>
      obtain ⟨v, r1⟩ := q
      rw [h1] at h
      simp only at h
      cases h2 : decs f n r1 with
      | none => rw [h2] at h; cases h
      | some q2 =>
        obtain ⟨l2, r2⟩ := q2
        rw [h2] at h
        simp only [Option.some.injEq, Prod.mk.injEq] at h
        obtain ⟨rfl, rfl⟩ := h
        obtain ⟨a1, a2⟩ := hf _ _ _ h1
        obtain ⟨b1, b2, b3⟩ := ih _ _ _ h2
        refine ⟨?_, by simp [b2], by simp [a2, b3]⟩
        rw [a1, b1]
        show enc v ++ (encs l2 ++ r2) = (enc v ++ encs l2) ++ r2
        rw [List.append_assoc]
theorem decs_of {f : List UInt8 → Option (V × List UInt8)} : ∀ (l : List V) (r : List UInt8), (∀ v ∈ l, ∀ r, f (enc v ++ r) = some (v, r)) → decs f l.length (encs l ++ r) = some (l, r) := by
  intro l
  induction l with
  | nil => intro r _; rfl
  | cons a l ih =>
    intro r h
    show decs f (l.length + 1) ((enc a ++ encs l) ++ r) = _
    rw [List.append_assoc]
    unfold decs
    rw [h a (by simp)]
    simp only
    rw [ih r fun v hv => h v (by simp [hv])]
theorem u16_ofNat (n : Nat) (h : n < 65536) : u16 (UInt8.ofNat (n / 256)) (UInt8.ofNat n) = n := by
  unfold u16
  rw [UInt8.toNat_ofNat', UInt8.toNat_ofNat']
  omega
theorem u16_lt (a b : UInt8) : u16 a b < 65536 := by
  unfold u16
  have := a.toNat_lt
  have := b.toNat_lt
  omega
theorem ofNat_u16 (a b : UInt8) : UInt8.ofNat (u16 a b / 256) = a ∧ UInt8.ofNat (u16 a b) = b := by
  have ha := a.toNat_lt
  have hb := b.toNat_lt
  unfold u16
  constructor
  · apply UInt8.toNat_inj.1
    rw [UInt8.toNat_ofNat']; omega
  · apply UInt8.toNat_inj.1
    rw [UInt8.toNat_ofNat']; omega
theorem dec_ok : ∀ d s v r, dec d s = some (v, r) → s = enc v ++ r ∧ wf d v = true := by
  intro d
  induction d with
  | zero => intro s v r h; cases h
  | succ d ih =>
    intro s v r h
    cases s with
    | nil => cases h
    | cons k t =>
      unfold dec at h
      by_cases h1 : k = 1
      · rw [if_pos h1] at h
        split at h
        · rename_i hl
          simp only [Option.some.injEq, Prod.mk.injEq] at h
          obtain ⟨rfl, rfl⟩ := h
          subst h1
          refine ⟨?_, ?_⟩
          · show _ = (1 :: t.take 8) ++ t.drop 8
            rw [List.cons_append, List.take_append_drop]
          · unfold wf
            rw [decide_eq_true_eq, List.length_take]; omega
        · cases h
      rw [if_neg h1] at h
      by_cases h2 : k = 2
      · rw [if_pos h2] at h
        cases t with
        | nil => cases h
        | cons b t =>
          simp only at h
          split at h
          · rename_i hb
            simp only [Option.some.injEq, Prod.mk.injEq] at h
            obtain ⟨rfl, rfl⟩ := h
            subst h2
            exact ⟨rfl, by unfold wf; simpa using hb⟩
          · cases h
      rw [if_neg h2] at h
      by_cases h3 : k = 10
      · rw [if_pos h3] at h
        subst h3
        match t, h with
        | a :: b :: t', h =>
          simp only [Option.some.injEq, Prod.mk.injEq] at h
          obtain ⟨rfl, rfl⟩ := h
          exact ⟨rfl, rfl⟩
      rw [if_neg h3] at h
      split at h
      · rename_i hc
        match t, h with
        | a :: b :: t', h =>
          simp only at h
          cases hd : decs (dec d) (u16 a b) t' with
          | none => rw [hd] at h; cases h
          | some q =>
            obtain ⟨l, r2⟩ := q
            rw [hd] at h
            simp only at h
            split at h
            · rename_i hp
              simp only [Option.some.injEq, Prod.mk.injEq] at h
              obtain ⟨rfl, rfl⟩ := h
              obtain ⟨a1, a2, a3⟩ := decs_ok (p := wf d) ih _ _ _ _ hd
              refine ⟨?_, ?_⟩
              · show _ = (k :: UInt8.ofNat (l.length / 256) :: UInt8.ofNat l.length :: encs l) ++ r2
                rw [a2, (ofNat_u16 a b).1, (ofNat_u16 a b).2, a1]
                simp
              · unfold wf
                rw [hc, a3, hp, a2]
                simp [u16_lt]
            · cases h
      · cases h
theorem dec_of : ∀ d v r, wf d v = true → dec d (enc v ++ r) = some (v, r) := by
  intro d
  induction d with
  | zero => intro v r h; cases h
  | succ d ih =>
    intro v r h
    cases v with
    | int l =>
      unfold wf at h
      rw [decide_eq_true_eq] at h
      show dec (d + 1) (1 :: (l ++ r)) = _
      unfold dec
      rw [if_pos rfl, if_pos (by rw [List.length_append]; omega), List.take_left' h, List.drop_left' h]
    | bool b =>
      unfold wf at h
      rw [decide_eq_true_eq] at h
      show dec (d + 1) (2 :: b :: r) = _
      unfold dec
      rw [if_neg (by decide), if_pos rfl]
      simp only
      rw [if_pos h]
    | name a b =>
      show dec (d + 1) (10 :: a :: b :: r) = _
      unfold dec
      rw [if_neg (by decide), if_neg (by decide), if_pos rfl]
    | comp k l =>
      unfold wf at h
      simp only [Bool.and_eq_true, decide_eq_true_eq] at h
      obtain ⟨h1, h2, h3, h4⟩ := h
      have hk : k ≠ 1 ∧ k ≠ 2 ∧ k ≠ 10 := by
        unfold isComp at h1
        rw [decide_eq_true_eq] at h1
        refine ⟨?_, ?_, ?_⟩ <;> (rintro rfl; simp at h1)
      show dec (d + 1) (k :: UInt8.ofNat (l.length / 256) :: UInt8.ofNat l.length :: (encs l ++ r)) = _
      unfold dec
      rw [if_neg hk.1, if_neg hk.2.1, if_neg hk.2.2, if_pos h1]
      simp only
      rw [u16_ofNat _ h2, decs_of l r fun v hv r => ih v r (List.all_eq_true.1 h3 v hv)]
      simp only
      rw [if_pos h4]
theorem enc_inj {d : Nat} {v u : V} (hv : wf d v = true) (hu : wf d u = true) (h : enc v = enc u) : v = u := by
  have h1 := dec_of d v [] hv
  have h2 := dec_of d u [] hu
  rw [h, h2] at h1
  simp only [Option.some.injEq, Prod.mk.injEq] at h1
  exact h1.1.symm

/-! the order is total -/
structure Tot (p : V → Bool) (f : V → V → Int) : Prop where
  refl : ∀ x, p x = true → f x x = 0
  anti : ∀ x y, p x = true → p y = true → f x y = - f y x
  zero : ∀ x y, p x = true → p y = true → f x y = 0 → x = y
  trans : ∀ x y z, p x = true → p y = true → p z = true → f x y ≤ 0 → f y z ≤ 0 → f x z ≤ 0
theorem sgn_self (a : Int) : sgn a a = 0 := by unfold sgn; simp
theorem sgn_anti (a b : Int) : sgn a b = - sgn b a := by
  unfold sgn
  split <;> split <;> (try split) <;> omega
theorem sgn_zero {a b : Int} (h : sgn a b = 0) : a = b := by
  unfold sgn at h
  split at h
  · omega
  · split at h <;> omega
theorem sgn_le {a b : Int} : sgn a b ≤ 0 ↔ a ≤ b := by
  unfold sgn
  split
  · omega
  · split <;> omega
theorem natL_acc (l : List UInt8) : ∀ n : Nat, l.foldl (fun n b => n * 256 + b.toNat) n = n * 256 ^ l.length + natL l := by
  induction l with
  | nil => intro n; simp [natL]
  | cons b l ih =>
    intro n
    unfold natL
    rw [List.foldl_cons, List.foldl_cons, ih, ih (0 * 256 + b.toNat), List.length_cons, Nat.pow_succ, Nat.add_mul, Nat.mul_assoc, Nat.mul_comm 256]
    simp only [Nat.zero_mul, Nat.zero_add]
    omega
theorem natL_cons (b : UInt8) (l : List UInt8) : natL (b :: l) = b.toNat * 256 ^ l.length + natL l := by
  unfold natL
  rw [List.foldl_cons, natL_acc, Nat.zero_mul, Nat.zero_add]
  rfl
theorem natL_lt (l : List UInt8) : natL l < 256 ^ l.length := by
  induction l with
  | nil => simp [natL]
  | cons b l ih =>
    rw [natL_cons, List.length_cons, Nat.pow_succ]
    have := b.toNat_lt
    have h : b.toNat * 256 ^ l.length ≤ 255 * 256 ^ l.length := Nat.mul_le_mul_right _ (by omega)
    omega
theorem natL_inj : ∀ l m : List UInt8, l.length = m.length → natL l = natL m → l = m := by
  intro l
  induction l with
  | nil => intro m h _; exact (List.eq_nil_of_length_eq_zero h.symm).symm
  | cons b l ih =>
    intro m h e
    cases m with
    | nil => simp at h
    | cons c m =>
      have hl : l.length = m.length := by simpa using h
      rw [natL_cons, natL_cons, hl] at e
      have h1 := natL_lt l
      have h2 := natL_lt m
      rw [hl] at h1
      have hb : b.toNat = c.toNat := by
        have e1 : (b.toNat * 256 ^ m.length + natL l) / 256 ^ m.length = b.toNat := by
          rw [Nat.mul_comm, Nat.mul_add_div (Nat.pow_pos (by decide)), Nat.div_eq_of_lt h1, Nat.add_zero]
        have e2 : (c.toNat * 256 ^ m.length + natL m) / 256 ^ m.length = c.toNat := by
          rw [Nat.mul_comm, Nat.mul_add_div (Nat.pow_pos (by decide)), Nat.div_eq_of_lt h2, Nat.add_zero]
        rw [← e1, ← e2, e]
      have hbc := UInt8.toNat_inj.1 hb
      subst hbc
      rw [ih m hl (by omega)]
theorem numL_inj {l m : List UInt8} (hl : l.length = 8) (hm : m.length = 8) (h : numL l = numL m) : l = m := by
  have h1 := natL_lt l
  have h2 := natL_lt m
  rw [hl] at h1
  rw [hm] at h2
  refine natL_inj l m (by omega) ?_
  unfold numL signed at h
  split at h <;> split at h <;> omega
theorem u16_inj {a b c d : UInt8} (h : u16 a b = u16 c d) : a = c ∧ b = d := by
  have h1 := ofNat_u16 a b
  have h2 := ofNat_u16 c d
  rw [h] at h1
  exact ⟨h1.1.symm.trans h2.1, h1.2.symm.trans h2.2⟩
theorem ordL_refl {p : V → Bool} {f : V → V → Int} (T : Tot p f) : ∀ l : List V, l.all p = true → ord.ordL f l l = 0 := by
  intro l
  induction l with
  | nil => intro _; rfl
  | cons a l ih =>
    intro h
    simp only [List.all_cons, Bool.and_eq_true] at h
    unfold ord.ordL
    rw [T.refl a h.1, if_neg (by simp)]
    exact ih h.2
theorem ordL_anti {p : V → Bool} {f : V → V → Int} (T : Tot p f) : ∀ l m : List V, l.all p = true → m.all p = true → ord.ordL f l m = - ord.ordL f m l := by
  intro l
  induction l with
  | nil => intro m _ _; cases m <;> rfl
  | cons a l ih =>
    intro m h1 h2
    cases m with
    | nil => rfl
    | cons b m =>
      simp only [List.all_cons, Bool.and_eq_true] at h1 h2
      unfold ord.ordL
      have e := T.anti a b h1.1 h2.1
      by_cases hz : f a b = 0
      · rw [if_neg (by simpa using hz), if_neg (by omega)]
        exact ih m h1.2 h2.2
      · rw [if_pos hz, if_pos (by omega)]; exact e
theorem ordL_zero {p : V → Bool} {f : V → V → Int} (T : Tot p f) : ∀ l m : List V, l.all p = true → m.all p = true → ord.ordL f l m = 0 → l = m := by
  intro l
  induction l with
  | nil =>
    intro m _ _ h
    cases m with
    | nil => rfl
    | cons b m => unfold ord.ordL at h; omega
  | cons a l ih =>
    intro m h1 h2 h
    cases m with
    | nil => unfold ord.ordL at h; omega
    | cons b m =>
      simp only [List.all_cons, Bool.and_eq_true] at h1 h2
      unfold ord.ordL at h
      by_cases hz : f a b = 0
      · rw [if_neg (by simpa using hz)] at h
        rw [T.zero a b h1.1 h2.1 hz, ih m h1.2 h2.2 h]
      · rw [if_pos hz] at h; exact absurd h hz
theorem ordL_trans {p : V → Bool} {f : V → V → Int} (T : Tot p f) : ∀ l m n : List V, l.all p = true → m.all p = true → n.all p = true → ord.ordL f l m ≤ 0 → ord.ordL f m n ≤ 0 → ord.ordL f l n ≤ 0 := by
  intro l
  induction l with
  | nil => intro m n _ _ _ _ _; cases n <;> simp [ord.ordL]
  | cons a l ih =>
    intro m n h1 h2 h3 q1 q2
    cases m with
    | nil => unfold ord.ordL at q1; omega
    | cons b m =>
      cases n with
      | nil => unfold ord.ordL at q2; omega
      | cons c n =>
        simp only [List.all_cons, Bool.and_eq_true] at h1 h2 h3
        unfold ord.ordL at q1 q2 ⊢
        by_cases z1 : f a b = 0
        · have e1 := T.zero a b h1.1 h2.1 z1
          subst e1
          rw [if_neg (by simpa using z1)] at q1
          by_cases z2 : f a c = 0
          · rw [if_neg (by simpa using z2)] at q2 ⊢
            exact ih m n h1.2 h2.2 h3.2 q1 q2
          · rw [if_pos z2] at q2 ⊢; exact q2
        · rw [if_pos z1] at q1
          by_cases z2 : f b c = 0
          · have e2 := T.zero b c h2.1 h3.1 z2
            subst e2
            rw [if_pos z1]; exact q1
          · rw [if_pos z2] at q2
            have h4 := T.trans a b c h1.1 h2.1 h3.1 q1 q2
            by_cases z3 : f a c = 0
            · have e3 := T.zero a c h1.1 h3.1 z3
              subst e3
              have := T.anti a b h1.1 h2.1
              omega
            · rw [if_pos z3]; exact h4
theorem kind_comp {d : Nat} {k : UInt8} {l : List V} (h : wf d (.comp k l) = true) : k ≠ 1 ∧ k ≠ 2 ∧ k ≠ 10 := by
  cases d with
  | zero => cases h
  | succ d =>
    unfold wf at h
    simp only [Bool.and_eq_true] at h
    have h1 := h.1
    unfold isComp at h1
    rw [decide_eq_true_eq] at h1
    refine ⟨?_, ?_, ?_⟩ <;> (rintro rfl; simp at h1)
theorem wf_parts {d : Nat} {k : UInt8} {l : List V} (h : wf (d + 1) (.comp k l) = true) : l.all (wf d) = true := by
  unfold wf at h
  simp only [Bool.and_eq_true] at h
  exact h.2.2.1
theorem ord_kind {d : Nat} {x y : V} (h : x.kind ≠ y.kind) : ord (d + 1) x y = sgn x.kind.toNat y.kind.toNat := by
  unfold ord
  rw [if_pos h]
theorem ord_int (d : Nat) (l m : List UInt8) : ord (d + 1) (.int l) (.int m) = sgn (numL l) (numL m) := by
  unfold ord
  rw [if_neg (by simp [V.kind])]
theorem ord_bool (d : Nat) (a b : UInt8) : ord (d + 1) (.bool a) (.bool b) = sgn a.toNat b.toNat := by
  unfold ord
  rw [if_neg (by simp [V.kind])]
theorem ord_name (d : Nat) (a b a' b' : UInt8) : ord (d + 1) (.name a b) (.name a' b') = sgn (u16 a b) (u16 a' b') := by
  unfold ord
  rw [if_neg (by simp [V.kind])]
theorem ord_comp (d : Nat) (k : UInt8) (l m : List V) : ord (d + 1) (.comp k l) (.comp k m) = ord.ordL (ord d) l m := by
  conv => lhs; unfold ord
  rw [if_neg (by simp [V.kind])]
theorem kind_ne {x y : V} (h : x.kind ≠ y.kind) : (x.kind.toNat : Int) ≠ y.kind.toNat := fun q => h (UInt8.toNat_inj.1 (by omega))
/-- values of one kind are made in one way -/
theorem same_kind {d : Nat} {x y : V} (hx : wf d x = true) (hy : wf d y = true) (h : x.kind = y.kind) :
    (∃ l m, x = .int l ∧ y = .int m) ∨ (∃ a b, x = .bool a ∧ y = .bool b) ∨ (∃ a b c e, x = .name a b ∧ y = .name c e) ∨ ∃ k l m, x = .comp k l ∧ y = .comp k m := by
  cases x <;> cases y
  all_goals first
    | exact .inl ⟨_, _, rfl, rfl⟩
    | exact .inr (.inl ⟨_, _, rfl, rfl⟩)
    | exact .inr (.inr (.inl ⟨_, _, _, _, rfl, rfl⟩))
    | (simp [V.kind] at h; done)
    | (simp only [V.kind] at h; subst h; exact .inr (.inr (.inr ⟨_, _, _, rfl, rfl⟩)))
    | (have := kind_comp hx; simp only [V.kind] at h; simp_all)
    | (have := kind_comp hy; simp only [V.kind] at h; simp_all)
theorem ord_tot : ∀ d, Tot (wf d) (ord d) := by
  intro d
  induction d with
  | zero => exact ⟨fun x h => (by cases h), fun x y h => (by cases h), fun x y h => (by cases h), fun x y z h => (by cases h)⟩
  | succ d ih =>
    have anti : ∀ x y, wf (d + 1) x = true → wf (d + 1) y = true → ord (d + 1) x y = - ord (d + 1) y x := by
      intro x y hx hy
      by_cases hk : x.kind = y.kind
      · rcases same_kind hx hy hk with ⟨l, m, rfl, rfl⟩ | ⟨a, b, rfl, rfl⟩ | ⟨a, b, c, e, rfl, rfl⟩ | ⟨k, l, m, rfl, rfl⟩
        · rw [ord_int, ord_int]; exact sgn_anti _ _
        · rw [ord_bool, ord_bool]; exact sgn_anti _ _
        · rw [ord_name, ord_name]; exact sgn_anti _ _
        · rw [ord_comp, ord_comp]; exact ordL_anti ih _ _ (wf_parts hx) (wf_parts hy)
      · rw [ord_kind hk, ord_kind (fun q => hk q.symm)]; exact sgn_anti _ _
    have zero : ∀ x y, wf (d + 1) x = true → wf (d + 1) y = true → ord (d + 1) x y = 0 → x = y := by
      intro x y hx hy h
      by_cases hk : x.kind = y.kind
      · rcases same_kind hx hy hk with ⟨l, m, rfl, rfl⟩ | ⟨a, b, rfl, rfl⟩ | ⟨a, b, c, e, rfl, rfl⟩ | ⟨k, l, m, rfl, rfl⟩
        · rw [ord_int] at h
          unfold wf at hx hy
          rw [numL_inj (of_decide_eq_true hx) (of_decide_eq_true hy) (sgn_zero h)]
        · rw [ord_bool] at h
          rw [UInt8.toNat_inj.1 (Int.ofNat.inj (sgn_zero h))]
        · rw [ord_name] at h
          obtain ⟨q1, q2⟩ := u16_inj (Int.ofNat.inj (sgn_zero h))
          rw [q1, q2]
        · rw [ord_comp] at h
          rw [ordL_zero ih _ _ (wf_parts hx) (wf_parts hy) h]
      · rw [ord_kind hk] at h
        exact absurd (sgn_zero h) (kind_ne hk)
    have refl : ∀ x, wf (d + 1) x = true → ord (d + 1) x x = 0 := by
      intro x hx
      have := anti x x hx hx
      omega
    refine ⟨refl, anti, zero, ?_⟩
    intro x y z hx hy hz h1 h2
    by_cases hxy : x.kind = y.kind
    · by_cases hyz : y.kind = z.kind
      · rcases same_kind hx hy hxy with ⟨l, m, rfl, rfl⟩ | ⟨a, b, rfl, rfl⟩ | ⟨a, b, c, e, rfl, rfl⟩ | ⟨k, l, m, rfl, rfl⟩
        · rcases same_kind hy hz hyz with ⟨l', m', e1, rfl⟩ | ⟨a', b', e1, rfl⟩ | ⟨a', b', c', e', e1, rfl⟩ | ⟨k', l', m', e1, rfl⟩
          · rw [ord_int] at h1 h2 ⊢
            rw [sgn_le] at *
            omega
          all_goals cases e1
        · rcases same_kind hy hz hyz with ⟨l', m', e1, rfl⟩ | ⟨a', b', e1, rfl⟩ | ⟨a', b', c', e', e1, rfl⟩ | ⟨k', l', m', e1, rfl⟩
          · cases e1
          · rw [ord_bool] at h1 h2 ⊢
            rw [sgn_le] at *
            omega
          all_goals cases e1
        · rcases same_kind hy hz hyz with ⟨l', m', e1, rfl⟩ | ⟨a', b', e1, rfl⟩ | ⟨a', b', c', e', e1, rfl⟩ | ⟨k', l', m', e1, rfl⟩
          · cases e1
          · cases e1
          · rw [ord_name] at h1 h2 ⊢
            rw [sgn_le] at *
            omega
          · cases e1
        · rcases same_kind hy hz hyz with ⟨l', m', e1, rfl⟩ | ⟨a', b', e1, rfl⟩ | ⟨a', b', c', e', e1, rfl⟩ | ⟨k', l', m', e1, rfl⟩
          · cases e1
          · cases e1
          · cases e1
          · cases e1
            rw [ord_comp] at h1 h2 ⊢
            exact ordL_trans ih _ _ _ (wf_parts hx) (wf_parts hy) (wf_parts hz) h1 h2
      · rw [ord_kind hyz] at h2
        rw [ord_kind (by rw [hxy]; exact hyz), hxy]; exact h2
    · rw [ord_kind hxy] at h1
      by_cases hyz : y.kind = z.kind
      · rw [ord_kind (by rw [← hyz]; exact hxy), ← hyz]; exact h1
      · rw [ord_kind hyz] at h2
        rw [sgn_le] at h1 h2
        have h3 := kind_ne hxy
        have h4 := kind_ne hyz
        have hxz : x.kind ≠ z.kind := fun q => by rw [q] at h1 h3; omega
        rw [ord_kind hxz, sgn_le]
        omega

end Go.Proofs.YtdifpemohdnolaaGreat.VM
