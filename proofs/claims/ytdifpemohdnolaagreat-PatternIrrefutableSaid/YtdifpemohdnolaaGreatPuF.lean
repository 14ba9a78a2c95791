/- Patterns as trees (first child, next sibling): isPat, Match and Build told on them. Pure. No conditions. -/
import Derived.Test.YtdifpemohdnolaaGreatPtV
namespace Go.Proofs.YtdifpemohdnolaaGreat
open Go.RowKit VM

inductive F where
  | nil : F
  | node : Int → Int → F → F → F
def F.cnt : F → Nat
  | .nil => 0
  | .node _ _ _ r => r.cnt + 1
def F.fl : F → List Cd
  | .nil => []
  | .node o n k r => (o, n, (k.cnt : Int)) :: (k.fl ++ r.fl)
def F.ops : F → List Int
  | .nil => []
  | .node o _ _ r => o :: r.ops
def F.app : F → F → F
  | .nil, g => g
  | .node o n k r, g => .node o n k (r.app g)
def anyOp (o : Int) : Bool := decide (o = 30 ∨ o = 31)
def catB (o n : Int) (ops : List Int) : Bool := !decide (o = 36) || ((ops[n.toNat]?).map anyOp).getD true
def F.ok : F → Nat → Bool
  | .nil, _ => true
  | .node o n k r, d => decide (0 < d) && permL (o, n, (k.cnt : Int)) && catB o n k.ops && k.ok (d - 1) && r.ok d
def F.vars : F → Nat
  | .nil => 0
  | .node o _ k r => (if o = 30 then 1 else 0) + k.vars + r.vars
theorem F.ops_len : ∀ f : F, f.ops.length = f.cnt
  | .nil => rfl
  | .node _ _ _ r => by show r.ops.length + 1 = _; rw [r.ops_len]; rfl
theorem F.app_fl : ∀ f g : F, (f.app g).fl = f.fl ++ g.fl
  | .nil, g => rfl
  | .node o n k r, g => by show (o, n, (k.cnt : Int)) :: (k.fl ++ (r.app g).fl) = _; rw [r.app_fl g]; simp [F.fl]
theorem F.app_cnt : ∀ f g : F, (f.app g).cnt = f.cnt + g.cnt
  | .nil, g => by show g.cnt = 0 + g.cnt; omega
  | .node o n k r, g => by show (r.app g).cnt + 1 = r.cnt + 1 + g.cnt; rw [r.app_cnt g]; omega
theorem F.app_ops : ∀ f g : F, (f.app g).ops = f.ops ++ g.ops
  | .nil, g => rfl
  | .node o n k r, g => by show o :: (r.app g).ops = _; rw [r.app_ops g]; rfl
theorem F.app_ok : ∀ (f g : F) (d : Nat), (f.app g).ok d = (f.ok d && g.ok d)
  | .nil, g, d => by show g.ok d = (true && g.ok d); simp
  | .node o n k r, g, d => by
    show (_ && (r.app g).ok d) = ((_ && r.ok d) && g.ok d)
    rw [r.app_ok g d]
    simp only [Bool.and_assoc]
theorem F.app_vars : ∀ f g : F, (f.app g).vars = f.vars + g.vars
  | .nil, g => by show g.vars = 0 + g.vars; omega
  | .node o n k r, g => by show _ + k.vars + (r.app g).vars = _ + k.vars + r.vars + g.vars; rw [r.app_vars g]; omega
theorem F.ok_up : ∀ (f : F) {d e : Nat}, d ≤ e → f.ok d = true → f.ok e = true
  | .nil, _, _, _, _ => rfl
  | .node o n k r, d, e, h, hk => by
    unfold F.ok at hk ⊢
    simp only [Bool.and_eq_true, decide_eq_true_eq] at hk ⊢
    obtain ⟨⟨⟨⟨h1, h2⟩, h3⟩, h4⟩, h5⟩ := hk
    exact ⟨⟨⟨⟨by omega, h2⟩, h3⟩, k.ok_up (by omega) h4⟩, r.ok_up h h5⟩
theorem F.vars_fl : ∀ f : F, varsN f.fl = f.vars
  | .nil => rfl
  | .node o n k r => by
    have e1 := k.vars_fl
    have e2 := r.vars_fl
    unfold varsN at e1 e2 ⊢
    unfold F.fl F.vars
    by_cases h : o = 30
    · rw [List.filter_cons_of_pos (by simp [h]), if_pos h, List.length_cons, List.filter_append, List.length_append, e1, e2]; omega
    · rw [List.filter_cons_of_neg (by simp [h]), if_neg h, List.filter_append, List.length_append, e1, e2]; omega
theorem F.ok_node {o n : Int} {k r : F} {d : Nat} (h : (F.node o n k r).ok d = true) : ∃ e, d = e + 1 ∧ permL (o, n, (k.cnt : Int)) = true ∧ catB o n k.ops = true ∧ k.ok e = true ∧ r.ok d = true := by
  unfold F.ok at h
  simp only [Bool.and_eq_true, decide_eq_true_eq] at h
  obtain ⟨⟨⟨⟨h1, h2⟩, h3⟩, h4⟩, h5⟩ := h
  exact ⟨d - 1, by omega, h2, h3, h4, h5⟩
theorem pre_get {pre : List Cd} {c : Cd} {rest : List Cd} : (pre ++ c :: rest)[pre.length]? = some c := by
  rw [List.getElem?_append_right (Nat.le_refl _), Nat.sub_self]
  rfl
/-- a forest behind what stands before it -/
theorem pend_f : ∀ (f : F) (d : Nat) (p pre post : List Cd) (c : Cd) (k0 : Nat), f.ok d = true → p = pre ++ f.fl ++ post → (∀ j q, f.ops[j]? = some q → c.1 = 36 → ((k0 + j : Nat) : Int) = c.2.1 → anyOp q = true) →
    loopL (pendL d p) (badL p c) f.cnt k0 pre.length = some (pre ++ f.fl).length
  | .nil, d, p, pre, post, c, k0, _, _, _ => by show some pre.length = _; simp [F.fl]
  | .node o n k r, d, p, pre, post, c, k0, hk, hp, hb => by
    obtain ⟨e, rfl, h1, h2, h3, h4⟩ := F.ok_node hk
    have hp1 : p = pre ++ (o, n, (k.cnt : Int)) :: (k.fl ++ (r.fl ++ post)) := by rw [hp]; simp [F.fl]
    have hg : p[pre.length]? = some (o, n, (k.cnt : Int)) := by rw [hp1]; exact pre_get
    have hl1 : (pre ++ [(o, n, (k.cnt : Int))]).length = pre.length + 1 := by simp
    have i1 := pend_f k e p (pre ++ [(o, n, (k.cnt : Int))]) (r.fl ++ post) (o, n, (k.cnt : Int)) 0 h3 (by rw [hp1]; simp) (fun j q hq ho hn => by
      unfold catB at h2
      simp only at ho hn
      rw [Nat.zero_add] at hn
      rw [decide_eq_true ho] at h2
      rw [← hn, Int.toNat_natCast, hq] at h2
      simpa using h2)
    have i2 := pend_f r (e + 1) p (pre ++ [(o, n, (k.cnt : Int))] ++ k.fl) post c (k0 + 1) h4 (by rw [hp1]; simp) (fun j q hq ho hn => hb (j + 1) q hq ho (by rw [← hn]; congr 1; omega))
    have hpe : pendL (e + 1) p pre.length = some (pre ++ [(o, n, (k.cnt : Int))] ++ k.fl).length := by
      unfold pendL
      rw [hg]
      simp only
      rw [h1, if_pos rfl, Int.toNat_natCast, ← hl1]
      exact i1
    show loopL _ _ (r.cnt + 1) k0 pre.length = _
    unfold loopL
    rw [hpe]
    have hbad : badL p c k0 pre.length = false := by
      unfold badL
      rw [hg, show ((some (o, n, (k.cnt : Int)) : Option Cd).map allL).getD true = anyOp o from rfl]
      by_cases hq : c.1 = 36 ∧ (k0 : Int) = c.2.1
      · rw [hb 0 o rfl hq.1 (by rw [Nat.add_zero]; exact hq.2)]; simp
      · rw [decide_eq_false hq]; rfl
    simp only [hbad]
    rw [if_neg (by decide), i2]
    simp [F.fl]
/-- one tree is a pattern -/
theorem isPat_t {o n : Int} {k : F} (h : (F.node o n k .nil).ok 64 = true) (hl : (F.node o n k .nil).fl.length ≤ 8192) : isPat (F.node o n k .nil).fl = true := by
  have := pend_f (.node o n k .nil) 64 (F.node o n k .nil).fl [] [] (30, 0, 0) 0 h (by simp) (fun j q _ ho => by simp at ho)
  have e : (F.node o n k .nil).cnt = 0 + 1 := rfl
  rw [e] at this
  unfold loopL at this
  unfold isPat
  rw [decide_eq_true hl]
  simp only [List.length_nil, List.nil_append] at this
  cases hp : pendL 64 (F.node o n k .nil).fl 0 with
  | none => rw [hp] at this; cases this
  | some j =>
    rw [hp] at this
    simp only at this
    split at this
    · cases this
    · have e2 : j = (F.node o n k .nil).fl.length := by cases this; rfl
      rw [e2]; simp
/-- what the trees leave of the values -/
def F.mt : F → List ByteArray → Option (List ByteArray)
  | .nil, _ => some []
  | .node o n k r, vs => match vs with
    | [] => none
    | v :: vs => match splitR (o, n, (k.cnt : Int)) v with
      | none => none
      | some l => match k.mt l with
        | none => none
        | some a => match r.mt vs with
          | none => none
          | some b => some ((if o = 30 then [v] else []) ++ a ++ b)
theorem mt_f : ∀ (f : F) (d : Nat) (p pre post : List Cd) (vs acc : List ByteArray), f.ok d = true → p = pre ++ f.fl ++ post → vs.length = f.cnt →
    mLoop (mtch d p) vs pre.length acc = match f.mt vs with
      | none => none
      | some us => some ((pre ++ f.fl).length, acc ++ us)
  | .nil, d, p, pre, post, vs, acc, _, _, hl => by
    obtain rfl : vs = [] := List.eq_nil_of_length_eq_zero hl
    show some (pre.length, acc) = some _
    simp [F.fl]
  | .node o n k r, d, p, pre, post, vs, acc, hk, hp, hl => by
    obtain ⟨e, rfl, h1, h2, h3, h4⟩ := F.ok_node hk
    cases vs with
    | nil => cases hl
    | cons v vs =>
      have hp1 : p = pre ++ (o, n, (k.cnt : Int)) :: (k.fl ++ (r.fl ++ post)) := by rw [hp]; simp [F.fl]
      have hg : p[pre.length]? = some (o, n, (k.cnt : Int)) := by rw [hp1]; exact pre_get
      have hl1 : (pre ++ [(o, n, (k.cnt : Int))]).length = pre.length + 1 := by simp
      unfold mLoop mtch F.mt
      rw [hg]
      simp only
      cases hs : splitR (o, n, (k.cnt : Int)) v with
      | none => rfl
      | some l =>
        have hll : l.length = k.cnt := by have : (l.length : Int) = (k.cnt : Int) := splitR_len h1 hs; omega
        have i1 := mt_f k e p (pre ++ [(o, n, (k.cnt : Int))]) (r.fl ++ post) l (if o = 30 then [v] else []) h3 (by rw [hp1]; simp) hll
        rw [hl1] at i1
        simp only
        rw [i1]
        cases hm : k.mt l with
        | none => rfl
        | some a =>
          have i2 := mt_f r (e + 1) p (pre ++ [(o, n, (k.cnt : Int))] ++ k.fl) post vs (acc ++ ((if o = 30 then [v] else []) ++ a)) h4 (by rw [hp1]; simp) (by have : vs.length + 1 = r.cnt + 1 := hl; omega)
          simp only
          rw [i2]
          cases r.mt vs with
          | none => rfl
          | some b => simp [F.fl]
theorem match_t {o n : Int} {k : F} (h : (F.node o n k .nil).ok 64 = true) (hl : (F.node o n k .nil).fl.length ≤ 8192) (v : ByteArray) : matchR (F.node o n k .nil).fl v = if valB 32 v = true then (F.node o n k .nil).mt [v] else none := by
  unfold matchR
  rw [isPat_t h hl]
  by_cases hv : valB 32 v = true
  · rw [if_pos ⟨rfl, hv⟩, if_pos hv]
    have := mt_f (.node o n k .nil) 64 (F.node o n k .nil).fl [] [] [v] [] h (by simp) rfl
    unfold mLoop at this
    simp only [List.length_nil, List.nil_append] at this
    cases hm : mtch 64 (F.node o n k .nil).fl 0 v with
    | none =>
      rw [hm] at this
      cases hq : (F.node o n k .nil).mt [v] with
      | none => rfl
      | some us => rw [hq] at this; cases this
    | some q =>
      rw [hm] at this
      unfold mLoop at this
      simp only at this
      cases hq : (F.node o n k .nil).mt [v] with
      | none => rw [hq] at this; cases this
      | some us =>
        rw [hq] at this
        simp only [Option.some.injEq] at this
        show some q.2 = some us
        exact congrArg some (congrArg Prod.snd this)
  · rw [if_neg (fun q => hv q.2), if_neg hv]
/-- the values of the trees, and what is left of the variables' values -/
def F.bd : F → List ByteArray → Option (List ByteArray × List ByteArray)
  | .nil, vs => some ([], vs)
  | .node o n k r, vs => match (if o = 30 then (match vs with
      | [] => none
      | v :: q => some (v, q))
      else match k.bd vs with
      | none => none
      | some (l, q) => some (joinR (o, n, (k.cnt : Int)) l, q)) with
    | none => none
    | some (v, q) => match r.bd q with
      | none => none
      | some (a, q2) => some (v :: a, q2)
theorem perm_var {n : Int} {kids : Int} (h : permL (30, n, kids) = true) : kids = 0 := by
  have e : permL (30, n, kids) = decide (n = 0 ∧ kids = 0) := by unfold permL; rw [if_pos (Or.inl rfl)]
  rw [h] at e
  exact (of_decide_eq_true e.symm).2
theorem cnt_nil : ∀ {k : F}, k.cnt = 0 → k = .nil
  | .nil, _ => rfl
  | .node _ _ _ _, h => by cases h
theorem bd_f : ∀ (f : F) (d : Nat) (p pre post : List Cd) (vs acc : List ByteArray), f.ok d = true → p = pre ++ f.fl ++ post →
    bLoop (bld d p) f.cnt pre.length vs acc = match f.bd vs with
      | none => none
      | some (a, q) => some (acc ++ a, (pre ++ f.fl).length, q)
  | .nil, d, p, pre, post, vs, acc, _, _ => by
    show some (acc, pre.length, vs) = some _
    simp [F.fl]
  | .node o n k r, d, p, pre, post, vs, acc, hk, hp => by
    obtain ⟨e, rfl, h1, h2, h3, h4⟩ := F.ok_node hk
    have hp1 : p = pre ++ (o, n, (k.cnt : Int)) :: (k.fl ++ (r.fl ++ post)) := by rw [hp]; simp [F.fl]
    have hg : p[pre.length]? = some (o, n, (k.cnt : Int)) := by rw [hp1]; exact pre_get
    have hl1 : (pre ++ [(o, n, (k.cnt : Int))]).length = pre.length + 1 := by simp
    have i1 := bd_f k e p (pre ++ [(o, n, (k.cnt : Int))]) (r.fl ++ post) vs [] h3 (by rw [hp1]; simp)
    rw [hl1] at i1
    have i2 := fun q acc => bd_f r (e + 1) p (pre ++ [(o, n, (k.cnt : Int))] ++ k.fl) post q acc h4 (by rw [hp1]; simp)
    have hlf : (pre ++ [(o, n, (k.cnt : Int))] ++ k.fl ++ r.fl).length = (pre ++ (F.node o n k r).fl).length := by simp [F.fl]
    show bLoop _ (r.cnt + 1) pre.length vs acc = _
    unfold bLoop bld F.bd
    rw [hg]
    simp only
    by_cases ho : o = 30
    · subst ho
      have hk0 := cnt_nil (k := k) (by have := perm_var h1; omega)
      subst hk0
      rw [if_pos rfl, if_pos rfl]
      cases vs with
      | nil => rfl
      | cons v q =>
        simp only
        have hl2 : (pre ++ [((30 : Int), n, ((F.nil.cnt : Nat) : Int))] ++ F.nil.fl).length = pre.length + 1 := by simp [F.fl]
        rw [← hl2, i2 q (acc ++ [v])]
        cases r.bd q with
        | none => rfl
        | some x => obtain ⟨a, q2⟩ := x; simp [F.fl]
    · rw [if_neg ho, if_neg ho, Int.toNat_natCast, i1]
      cases k.bd vs with
      | none => rfl
      | some x =>
        obtain ⟨l, q⟩ := x
        simp only [List.nil_append]
        rw [i2 q]
        cases r.bd q with
        | none => rfl
        | some y => obtain ⟨a, q2⟩ := y; simp [F.fl]
theorem build_t {o n : Int} {k : F} (h : (F.node o n k .nil).ok 64 = true) (hl : (F.node o n k .nil).fl.length ≤ 8192) (vs : List ByteArray) (hv : vs.length = (F.node o n k .nil).vars) (ht : totB vs ≤ 131072) :
    buildP (F.node o n k .nil).fl vs = match (F.node o n k .nil).bd vs with
      | some (v :: _, _) => if valB 32 v = true then some v else none
      | _ => none := by
  unfold buildP
  rw [if_pos ⟨isPat_t h hl, by rw [F.vars_fl]; exact hv, ht⟩]
  have := bd_f (.node o n k .nil) 64 (F.node o n k .nil).fl [] [] vs [] h (by simp)
  have e : (F.node o n k .nil).cnt = 0 + 1 := rfl
  rw [e] at this
  unfold bLoop at this
  simp only [List.length_nil, List.nil_append] at this
  cases hm : bld 64 (F.node o n k .nil).fl 0 vs with
  | none =>
    rw [hm] at this
    cases hq : (F.node o n k .nil).bd vs with
    | none => rfl
    | some us => rw [hq] at this; cases this
  | some q =>
    rw [hm] at this
    simp only [bLoop] at this
    cases hq : (F.node o n k .nil).bd vs with
    | none => rw [hq] at this; cases this
    | some us =>
      obtain ⟨a, q2⟩ := us
      rw [hq] at this
      simp only [Option.some.injEq, Prod.mk.injEq] at this
      rw [← this.1]

end Go.Proofs.YtdifpemohdnolaaGreat
