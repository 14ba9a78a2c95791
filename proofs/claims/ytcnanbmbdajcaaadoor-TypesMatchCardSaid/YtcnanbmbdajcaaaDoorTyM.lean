/- The plain model of types: valid nodes, types in preorder, replacement. No program in it. No conditions. -/
namespace Go.Proofs.YtcnanbmbdajcaaaDoor.M

/-- a node: its kind, its number, how many children -/
abbrev TN := Int × Int × Int
def vN (t : TN) : Bool :=
  if t.1 = 1 ∨ t.1 = 6 then decide (t.2.2 = 0) && (decide (0 ≤ t.2.1) && decide (t.2.1 ≤ 1073741824))
  else if t.1 = 2 ∨ t.1 = 3 ∨ t.1 = 4 ∨ t.1 = 5 then decide (t.2.1 = 0) && decide (t.2.2 = 0)
  else if t.1 = 7 ∨ t.1 = 8 then decide (t.2.1 = 0) && decide (t.2.2 = 1)
  else if t.1 = 9 ∨ t.1 = 12 ∨ t.1 = 13 then decide (t.2.1 = 0) && decide (t.2.2 = 2)
  else if t.1 = 10 then decide (t.2.1 = 0) && (decide (2 ≤ t.2.2) && decide (t.2.2 ≤ 8))
  else if t.1 = 11 then decide (t.2.1 = 0) && (decide (1 ≤ t.2.2) && decide (t.2.2 ≤ 9))
  else false
theorem vN_kids {t : TN} (h : vN t = true) : 0 ≤ t.2.2 ∧ t.2.2 ≤ 9 := by
  unfold vN at h
  repeat' split at h
  all_goals first | (simp at h; omega) | (cases h)
/-- n types one after another -/
def itK (f : List TN → Option (List TN)) : Nat → List TN → Option (List TN)
  | 0, r => some r
  | n + 1, r => match f r with
    | some r' => itK f n r'
    | none => none
/-- what lies behind the type that begins a list, nested at most d deep -/
def bt : Nat → List TN → Option (List TN)
  | 0, _ => none
  | _ + 1, [] => none
  | d + 1, t :: r => if vN t = true then itK (bt d) t.2.2.toNat r else none
def valT (ts : List TN) : Bool := decide (ts.length ≤ 512) && decide (bt 64 ts = some [])

theorem itK_len {f : List TN → Option (List TN)} (hf : ∀ ts r, f ts = some r → r.length < ts.length) : ∀ n ts r, itK f n ts = some r → r.length ≤ ts.length := by
  intro n
  induction n with
  | zero => intro ts r h; simp only [itK, Option.some.injEq] at h; subst h; exact Nat.le_refl _
  | succ n ih =>
    intro ts r h
    unfold itK at h
    split at h
    · rename_i r' h'
      have h1 := hf _ _ h'
      have h2 := ih _ _ h
      omega
    · cases h
theorem bt_len : ∀ d ts r, bt d ts = some r → r.length < ts.length := by
  intro d
  induction d with
  | zero => intro ts r h; cases h
  | succ d ih =>
    intro ts r h
    cases ts with
    | nil => cases h
    | cons t l =>
      unfold bt at h
      split at h
      · have := itK_len ih _ _ _ h; simp; omega
      · cases h
theorem itK_drop {f : List TN → Option (List TN)} (hf : ∀ ts r, f ts = some r → r = ts.drop (ts.length - r.length)) (hl : ∀ ts r, f ts = some r → r.length < ts.length) :
    ∀ n ts r, itK f n ts = some r → r = ts.drop (ts.length - r.length) := by
  intro n
  induction n with
  | zero => intro ts r h; simp only [itK, Option.some.injEq] at h; subst h; simp
  | succ n ih =>
    intro ts r h
    unfold itK at h
    split at h
    · rename_i r' h'
      have h1 := hf _ _ h'
      have h2 := ih _ _ h
      have h3 := hl _ _ h'
      have h4 := itK_len hl _ _ _ h
      generalize hk : ts.length - r'.length = k at *
      generalize hj : r'.length - r.length = j at *
      rw [h2, h1, List.drop_drop]
      congr 1
      simp
      omega
    · cases h
theorem bt_drop : ∀ d ts r, bt d ts = some r → r = ts.drop (ts.length - r.length) := by
  intro d
  induction d with
  | zero => intro ts r h; cases h
  | succ d ih =>
    intro ts r h
    cases ts with
    | nil => cases h
    | cons t l =>
      unfold bt at h
      split at h
      · have h1 := itK_len (bt_len d) _ _ _ h
        have h2 := itK_drop ih (bt_len d) _ _ _ h
        rw [List.length_cons, show l.length + 1 - r.length = (l.length - r.length) + 1 by omega, List.drop_succ_cons]
        exact h2
      · cases h
/-- a type stays one whatever stands behind it -/
theorem itK_app {f : List TN → Option (List TN)} (x : List TN) (hf : ∀ ts r, f ts = some r → f (ts ++ x) = some (r ++ x)) : ∀ n ts r, itK f n ts = some r → itK f n (ts ++ x) = some (r ++ x) := by
  intro n
  induction n with
  | zero => intro ts r h; simp only [itK, Option.some.injEq] at h; subst h; rfl
  | succ n ih =>
    intro ts r h
    unfold itK at h ⊢
    split at h
    · rename_i r' h'
      rw [hf _ _ h']
      exact ih _ _ h
    · cases h
theorem bt_app (x : List TN) : ∀ d ts r, bt d ts = some r → bt d (ts ++ x) = some (r ++ x) := by
  intro d
  induction d with
  | zero => intro ts r h; cases h
  | succ d ih =>
    intro ts r h
    cases ts with
    | nil => cases h
    | cons t l =>
      unfold bt at h
      rw [List.cons_append]
      unfold bt
      split at h
      · rename_i hv
        rw [if_pos hv]
        exact itK_app x ih _ _ _ h
      · cases h
theorem itK_mono {f g : List TN → Option (List TN)} (hf : ∀ ts r, f ts = some r → g ts = some r) : ∀ n ts r, itK f n ts = some r → itK g n ts = some r := by
  intro n
  induction n with
  | zero => intro ts r h; exact h
  | succ n ih =>
    intro ts r h
    unfold itK at h ⊢
    split at h
    · rename_i r' h'
      rw [hf _ _ h']
      exact ih _ _ h
    · cases h
theorem bt_up : ∀ d ts r, bt d ts = some r → bt (d + 1) ts = some r := by
  intro d
  induction d with
  | zero => intro ts r h; cases h
  | succ d ih =>
    intro ts r h
    cases ts with
    | nil => cases h
    | cons t l =>
      unfold bt at h ⊢
      split at h
      · rename_i hv
        rw [if_pos hv]
        exact itK_mono ih _ _ _ h
      · cases h
theorem bt_mono {d e : Nat} (h : d ≤ e) {ts r : List TN} (hb : bt d ts = some r) : bt e ts = some r := by
  induction h with
  | refl => exact hb
  | step _ ih => exact bt_up _ _ _ ih
/-- a list of types, one after another -/
theorem itK_flat (d : Nat) : ∀ ls : List (List TN), (∀ l ∈ ls, bt d l = some []) → itK (bt d) ls.length ls.flatten = some [] := by
  intro ls
  induction ls with
  | nil => intro _; rfl
  | cons a r ih =>
    intro h
    rw [List.flatten_cons, List.length_cons]
    unfold itK
    rw [bt_app _ _ _ _ (h a (by simp)), List.nil_append]
    exact ih fun l hl => h l (by simp [hl])
/-- the type that Make makes -/
def mkT (k num : Int) (ls : List (List TN)) : List TN := (k, num, (ls.length : Int)) :: ls.flatten
theorem bt_mk {d : Nat} {k num : Int} {ls : List (List TN)} (hv : vN (k, num, (ls.length : Int)) = true) (h : ∀ l ∈ ls, bt d l = some []) : bt (d + 1) (mkT k num ls) = some [] := by
  unfold mkT bt
  rw [if_pos hv, Int.toNat_natCast]
  exact itK_flat d ls h

/-! a function on nodes that keeps kinds and children's numbers -/
theorem itK_map {g : TN → TN} {f : List TN → Option (List TN)} (hf : ∀ ts, f (ts.map g) = (f ts).map (·.map g)) : ∀ n ts, itK f n (ts.map g) = (itK f n ts).map (·.map g) := by
  intro n
  induction n with
  | zero => intro ts; rfl
  | succ n ih =>
    intro ts
    unfold itK
    rw [hf]
    cases h : f ts with
    | none => rfl
    | some r => exact ih r
theorem bt_map {g : TN → TN} (hv : ∀ t, vN (g t) = vN t) (hk : ∀ t, (g t).2.2 = t.2.2) : ∀ d ts, bt d (ts.map g) = (bt d ts).map (·.map g) := by
  intro d
  induction d with
  | zero => intro ts; rfl
  | succ d ih =>
    intro ts
    cases ts with
    | nil => rfl
    | cons t l =>
      rw [List.map_cons]
      unfold bt
      rw [hv, hk]
      by_cases h : vN t = true
      · rw [if_pos h, if_pos h]; exact itK_map ih _ _
      · rw [if_neg h, if_neg h]; rfl

/-! replacement -/
abbrev Bd := Int × List TN
def lk (s : List Bd) (v : Int) : Option (List TN) := (s.find? fun b => decide (b.1 = v)).map (·.2)
def apN (s : List Bd) (t : TN) : List TN := if t.1 = 1 then (lk s t.2.1).getD [t] else [t]
def apL (s : List Bd) (ts : List TN) : List TN := ts.flatMap (apN s)
/-- the list ascends from v on and its types are valid -/
def subF : Option Int → List Bd → Bool
  | _, [] => true
  | p, b :: r => (match p with | none => true | some v => decide (v < b.1)) && (valT b.2 && subF (some b.1) r)
def subst (s : List Bd) : Bool := subF none s
def applyM (s : List Bd) (ts : List TN) : List TN := if (valT ts && (subst s && valT (apL s ts))) = true then apL s ts else []

end Go.Proofs.YtcnanbmbdajcaaaDoor.M
