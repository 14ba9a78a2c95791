/- The reference's walk, with and without its check: the model. No program in it. No conditions. -/
import Derived.Test.YtdifpemohdnolaaGreatVaN
namespace Go.Proofs.YtdifpemohdnolaaGreat.VM

/-- reading with or without the check of the parts -/
def decC (b : Bool) : Nat → List UInt8 → Option (V × List UInt8)
  | 0, _ => none
  | _ + 1, [] => none
  | d + 1, k :: r =>
    if k = 1 then (if 8 ≤ r.length then some (.int (r.take 8), r.drop 8) else none)
    else if k = 2 then (match r with
      | [] => none
      | b :: r' => if b.toNat ≤ 1 then some (.bool b, r') else none)
    else if k = 10 then (match r with
      | a :: b :: r' => some (.name a b, r')
      | _ => none)
    else if isComp k = true then (match r with
      | a :: c :: r' => (match decs (decC b d) (u16 a c) r' with
        | some (l, r'') => if (!b || parted (ord d) k l) = true then some (.comp k l, r'') else none
        | none => none)
      | _ => none)
    else none
theorem decs_congr {f g : List UInt8 → Option (V × List UInt8)} (h : ∀ s, f s = g s) : ∀ n s, decs f n s = decs g n s := by
  intro n
  induction n with
  | zero => intro s; rfl
  | succ n ih =>
    intro s
    unfold decs
    rw [h]
    cases g s with
    | none => rfl
    | some q => simp only; rw [ih]
theorem decC_true : ∀ d s, decC true d s = dec d s := by
  intro d
  induction d with
  | zero => intro s; rfl
  | succ d ih =>
    intro s
    cases s with
    | nil => rfl
    | cons k r =>
      unfold decC dec
      by_cases h1 : k = 1
      · rw [if_pos h1, if_pos h1]
      rw [if_neg h1, if_neg h1]
      by_cases h2 : k = 2
      · rw [if_pos h2, if_pos h2]; cases r <;> rfl
      rw [if_neg h2, if_neg h2]
      by_cases h3 : k = 10
      · rw [if_pos h3, if_pos h3]
        match r with
        | [] => rfl
        | [a] => rfl
        | a :: c :: r' => rfl
      rw [if_neg h3, if_neg h3]
      by_cases h4 : isComp k = true
      · rw [if_pos h4, if_pos h4]
        match r with
        | [] => rfl
        | [a] => rfl
        | a :: c :: r' =>
          simp only [decs_congr ih, Bool.not_true, Bool.false_or]
          cases decs (dec d) (u16 a c) r' with
          | none => rfl
          | some q => rfl
      · rw [if_neg h4, if_neg h4]
theorem decC_of (b : Bool) : ∀ d v r, wf d v = true → decC b d (enc v ++ r) = some (v, r) := by
  intro d
  induction d with
  | zero => intro v r h; cases h
  | succ d ih =>
    intro v r h
    cases v with
    | int l =>
      unfold wf at h
      rw [decide_eq_true_eq] at h
      show decC b (d + 1) (1 :: (l ++ r)) = _
      unfold decC
      rw [if_pos rfl, if_pos (by rw [List.length_append]; omega), List.take_left' h, List.drop_left' h]
    | bool c =>
      unfold wf at h
      rw [decide_eq_true_eq] at h
      show decC b (d + 1) (2 :: c :: r) = _
      unfold decC
      rw [if_neg (by decide), if_pos rfl]
      simp only
      rw [if_pos h]
    | name a c =>
      show decC b (d + 1) (10 :: a :: c :: r) = _
      unfold decC
      rw [if_neg (by decide), if_neg (by decide), if_pos rfl]
    | comp k l =>
      have hk := kind_comp h
      unfold wf at h
      simp only [Bool.and_eq_true, decide_eq_true_eq] at h
      obtain ⟨h1, h2, h3, h4⟩ := h
      show decC b (d + 1) (k :: UInt8.ofNat (l.length / 256) :: UInt8.ofNat l.length :: (encs l ++ r)) = _
      unfold decC
      rw [if_neg hk.1, if_neg hk.2.1, if_neg hk.2.2, if_pos h1]
      simp only
      rw [u16_ofNat _ h2, decs_of l r fun v hv r => ih v r (List.all_eq_true.1 h3 v hv)]
      simp only
      rw [h4, Bool.or_true, if_pos rfl]
/-- more depth changes nothing -/
theorem wf_up : ∀ d v, wf d v = true → wf (d + 1) v = true ∧ ∀ u, wf d u = true → ord (d + 1) v u = ord d v u := by
  intro d
  induction d with
  | zero => intro v h; cases h
  | succ d ih =>
    have hL : ∀ l m : List V, l.all (wf d) = true → m.all (wf d) = true → ord.ordL (ord (d + 1)) l m = ord.ordL (ord d) l m := by
      intro l
      induction l with
      | nil => intro m _ _; cases m <;> rfl
      | cons a l ihl =>
        intro m h1 h2
        cases m with
        | nil => rfl
        | cons b m =>
          simp only [List.all_cons, Bool.and_eq_true] at h1 h2
          unfold ord.ordL
          rw [(ih a h1.1).2 b h2.1, ihl m h1.2 h2.2]
    have hA : ∀ l : List V, l.all (wf d) = true → ascL (ord (d + 1)) l = ascL (ord d) l := by
      intro l
      induction l with
      | nil => intro _; rfl
      | cons a l ihl =>
        intro h
        cases l with
        | nil => rfl
        | cons b l =>
          have h' := h
          simp only [List.all_cons, Bool.and_eq_true] at h
          unfold ascL
          rw [(ih a h.1).2 b h.2.1, ihl (by simp only [List.all_cons, Bool.and_eq_true]; exact h.2)]
    have hEv : ∀ n (l : List V), l.length ≤ n → l.all (wf d) = true → (evens l).all (wf d) = true := by
      intro n
      induction n with
      | zero => intro l h _; have : l = [] := List.eq_nil_of_length_eq_zero (by omega); subst this; rfl
      | succ n ihn =>
        intro l h ha
        match l, h, ha with
        | [], _, _ => rfl
        | [a], _, ha => exact ha
        | a :: b :: l, h, ha =>
          simp only [List.all_cons, Bool.and_eq_true] at ha
          show (a :: evens l).all (wf d) = true
          rw [List.all_cons, ha.1, ihn l (by simp at h; omega) ha.2.2]; rfl
    intro v hv
    constructor
    · cases v with
      | int l => exact hv
      | bool b => exact hv
      | name a b => rfl
      | comp k l =>
        unfold wf at hv ⊢
        simp only [Bool.and_eq_true, decide_eq_true_eq] at hv ⊢
        obtain ⟨h1, h2, h3, h4⟩ := hv
        refine ⟨h1, h2, List.all_eq_true.2 fun x hx => (ih x (List.all_eq_true.1 h3 x hx)).1, ?_⟩
        unfold parted at h4 ⊢
        unfold ascOK at h4 ⊢
        rw [hA l h3, hA (evens l) (hEv l.length l (Nat.le_refl _) h3)]
        exact h4
    · intro u hu
      by_cases hk : v.kind = u.kind
      · rcases same_kind hv hu hk with ⟨l, m, rfl, rfl⟩ | ⟨a, b, rfl, rfl⟩ | ⟨a, b, c, e, rfl, rfl⟩ | ⟨k, l, m, rfl, rfl⟩
        · rw [ord_int, ord_int]
        · rw [ord_bool, ord_bool]
        · rw [ord_name, ord_name]
        · rw [ord_comp, ord_comp]; exact hL l m (wf_parts hv) (wf_parts hu)
      · rw [ord_kind hk, ord_kind hk]
theorem wf_le {d e : Nat} (h : d ≤ e) {v : V} (hv : wf d v = true) : wf e v = true := by
  induction h with
  | refl => exact hv
  | step _ ih => exact (wf_up _ _ ih).1
theorem ord_le {d e : Nat} (h : d ≤ e) {v u : V} (hv : wf d v = true) (hu : wf d u = true) : ord e v u = ord d v u := by
  induction h with
  | refl => rfl
  | step h ih => rw [(wf_up _ _ (wf_le h hv)).2 u (wf_le h hu), ih]

end Go.Proofs.YtdifpemohdnolaaGreat.VM
