/- Patterns as trees: two forests side by side, one leaf, the irrefutable ones; a row that holds a tree, beside the choices. No conditions. -/
import Derived.Test.YtdifpemohdnolaaGreatPtV
import Derived.Test.YtdifpemohdnolaaGreatPuA
import Derived.Test.YtdifpemohdnolaaGreatVgC
namespace Go.Proofs.YtdifpemohdnolaaGreat
open Go.RowKit VM

inductive F where
  | nil : F
  | node : Int → Int → F → F → F
def F.cnt : F → Nat
  | .nil => 0
  | .node _ _ _ r => r.cnt + 1
def F.fl : F → List Cd
  | .nil => []
  | .node o n k r => (o, n, (k.cnt : Int)) :: (k.fl ++ r.fl)
def F.ops : F → List Int
  | .nil => []
  | .node o _ _ r => o :: r.ops
def F.app : F → F → F
  | .nil, g => g
  | .node o n k r, g => .node o n k (r.app g)
def anyOp (o : Int) : Bool := decide (o = 30 ∨ o = 31)
def catB (o n : Int) (ops : List Int) : Bool := !decide (o = 36) || ((ops[n.toNat]?).map anyOp).getD true
def F.ok : F → Nat → Bool
  | .nil, _ => true
  | .node o n k r, d => decide (0 < d) && permL (o, n, (k.cnt : Int)) && catB o n k.ops && k.ok (d - 1) && r.ok d
def F.vars : F → Nat
  | .nil => 0
  | .node o _ k r => (if o = 30 then 1 else 0) + k.vars + r.vars
theorem F.ops_len : ∀ f : F, f.ops.length = f.cnt
  | .nil => rfl
  | .node _ _ _ r => by show r.ops.length + 1 = _; rw [r.ops_len]; rfl
theorem F.app_fl : ∀ f g : F, (f.app g).fl = f.fl ++ g.fl
  | .nil, g => rfl
  | .node o n k r, g => by show (o, n, (k.cnt : Int)) :: (k.fl ++ (r.app g).fl) = _; rw [r.app_fl g]; simp [F.fl]
theorem F.app_cnt : ∀ f g : F, (f.app g).cnt = f.cnt + g.cnt
  | .nil, g => by show g.cnt = 0 + g.cnt; omega
  | .node o n k r, g => by show (r.app g).cnt + 1 = r.cnt + 1 + g.cnt; rw [r.app_cnt g]; omega
theorem F.app_ops : ∀ f g : F, (f.app g).ops = f.ops ++ g.ops
  | .nil, g => rfl
  | .node o n k r, g => by show o :: (r.app g).ops = _; rw [r.app_ops g]; rfl
theorem F.app_ok : ∀ (f g : F) (d : Nat), (f.app g).ok d = (f.ok d && g.ok d)
  | .nil, g, d => by show g.ok d = (true && g.ok d); simp
  | .node o n k r, g, d => by
    show (_ && (r.app g).ok d) = ((_ && r.ok d) && g.ok d)
    rw [r.app_ok g d]
    simp only [Bool.and_assoc]
theorem F.app_vars : ∀ f g : F, (f.app g).vars = f.vars + g.vars
  | .nil, g => by show g.vars = 0 + g.vars; omega
  | .node o n k r, g => by show _ + k.vars + (r.app g).vars = _ + k.vars + r.vars + g.vars; rw [r.app_vars g]; omega
theorem F.ok_up : ∀ (f : F) {d e : Nat}, d ≤ e → f.ok d = true → f.ok e = true
  | .nil, _, _, _, _ => rfl
  | .node o n k r, d, e, h, hk => by
    unfold F.ok at hk ⊢
    simp only [Bool.and_eq_true, decide_eq_true_eq] at hk ⊢
    obtain ⟨⟨⟨⟨h1, h2⟩, h3⟩, h4⟩, h5⟩ := hk
    exact ⟨⟨⟨⟨by omega, h2⟩, h3⟩, k.ok_up (by omega) h4⟩, r.ok_up h h5⟩
theorem F.vars_fl : ∀ f : F, varsN f.fl = f.vars
  | .nil => rfl
  | .node o n k r => by
    have e1 := k.vars_fl
    have e2 := r.vars_fl
    unfold varsN at e1 e2 ⊢
    unfold F.fl F.vars
    by_cases h : o = 30
    · rw [List.filter_cons_of_pos (by simp [h]), if_pos h, List.length_cons, List.filter_append, List.length_append, e1, e2]; omega
    · rw [List.filter_cons_of_neg (by simp [h]), if_neg h, List.filter_append, List.length_append, e1, e2]; omega
theorem F.ok_node {o n : Int} {k r : F} {d : Nat} (h : (F.node o n k r).ok d = true) : ∃ e, d = e + 1 ∧ permL (o, n, (k.cnt : Int)) = true ∧ catB o n k.ops = true ∧ k.ok e = true ∧ r.ok d = true := by
  unfold F.ok at h
  simp only [Bool.and_eq_true, decide_eq_true_eq] at h
  obtain ⟨⟨⟨⟨h1, h2⟩, h3⟩, h4⟩, h5⟩ := h
  exact ⟨d - 1, by omega, h2, h3, h4, h5⟩
theorem pre_get {pre : List Cd} {c : Cd} {rest : List Cd} : (pre ++ c :: rest)[pre.length]? = some c := by
  rw [List.getElem?_append_right (Nat.le_refl _), Nat.sub_self]
  rfl
/-- a forest behind what stands before it -/
theorem pend_f : ∀ (f : F) (d : Nat) (p pre post : List Cd) (c : Cd) (k0 : Nat), f.ok d = true → p = pre ++ f.fl ++ post → (∀ j q, f.ops[j]? = some q → c.1 = 36 → ((k0 + j : Nat) : Int) = c.2.1 → anyOp q = true) →
    loopL (pendL d p) (badL p c) f.cnt k0 pre.length = some (pre ++ f.fl).length
  | .nil, d, p, pre, post, c, k0, _, _, _ => by show some pre.length = _; simp [F.fl]
  | .node o n k r, d, p, pre, post, c, k0, hk, hp, hb => by
    obtain ⟨e, rfl, h1, h2, h3, h4⟩ := F.ok_node hk
    have hp1 : p = pre ++ (o, n, (k.cnt : Int)) :: (k.fl ++ (r.fl ++ post)) := by rw [hp]; simp [F.fl]
    have hg : p[pre.length]? = some (o, n, (k.cnt : Int)) := by rw [hp1]; exact pre_get
    have hl1 : (pre ++ [(o, n, (k.cnt : Int))]).length = pre.length + 1 := by simp
    have i1 := pend_f k e p (pre ++ [(o, n, (k.cnt : Int))]) (r.fl ++ post) (o, n, (k.cnt : Int)) 0 h3 (by rw [hp1]; simp) (fun j q hq ho hn => by
      unfold catB at h2
      simp only at ho hn
      rw [Nat.zero_add] at hn
      rw [decide_eq_true ho] at h2
      rw [← hn, Int.toNat_natCast, hq] at h2
      simpa using h2)
    have i2 := pend_f r (e + 1) p (pre ++ [(o, n, (k.cnt : Int))] ++ k.fl) post c (k0 + 1) h4 (by rw [hp1]; simp) (fun j q hq ho hn => hb (j + 1) q hq ho (by rw [← hn]; congr 1; omega))
    have hpe : pendL (e + 1) p pre.length = some (pre ++ [(o, n, (k.cnt : Int))] ++ k.fl).length := by
      unfold pendL
      rw [hg]
      simp only
      rw [h1, if_pos rfl, Int.toNat_natCast, ← hl1]
      exact i1
    show loopL _ _ (r.cnt + 1) k0 pre.length = _
    unfold loopL
    rw [hpe]
    have hbad : badL p c k0 pre.length = false := by
      unfold badL
      rw [hg, show ((some (o, n, (k.cnt : Int)) : Option Cd).map allL).getD true = anyOp o from rfl]
      by_cases hq : c.1 = 36 ∧ (k0 : Int) = c.2.1
      · rw [hb 0 o rfl hq.1 (by rw [Nat.add_zero]; exact hq.2)]; simp
      · rw [decide_eq_false hq]; rfl
    simp only [hbad]
    rw [if_neg (by decide), i2]
    simp [F.fl]
/-- one tree is a pattern -/
theorem isPat_t {o n : Int} {k : F} (h : (F.node o n k .nil).ok 64 = true) (hl : (F.node o n k .nil).fl.length ≤ 8192) : isPat (F.node o n k .nil).fl = true := by
  have := pend_f (.node o n k .nil) 64 (F.node o n k .nil).fl [] [] (30, 0, 0) 0 h (by simp) (fun j q _ ho => by simp at ho)
  have e : (F.node o n k .nil).cnt = 0 + 1 := rfl
  rw [e] at this
  unfold loopL at this
  unfold isPat
  rw [decide_eq_true hl]
  simp only [List.length_nil, List.nil_append] at this
  cases hp : pendL 64 (F.node o n k .nil).fl 0 with
  | none => rw [hp] at this; cases this
  | some j =>
    rw [hp] at this
    simp only at this
    split at this
    · cases this
    · have e2 : j = (F.node o n k .nil).fl.length := by cases this; rfl
      rw [e2]; simp
/-- what the trees leave of the values -/
def F.mt : F → List ByteArray → Option (List ByteArray)
  | .nil, _ => some []
  | .node o n k r, vs => match vs with
    | [] => none
    | v :: vs => match splitR (o, n, (k.cnt : Int)) v with
      | none => none
      | some l => match k.mt l with
        | none => none
        | some a => match r.mt vs with
          | none => none
          | some b => some ((if o = 30 then [v] else []) ++ a ++ b)
theorem mt_f : ∀ (f : F) (d : Nat) (p pre post : List Cd) (vs acc : List ByteArray), f.ok d = true → p = pre ++ f.fl ++ post → vs.length = f.cnt →
    mLoop (mtch d p) vs pre.length acc = match f.mt vs with
      | none => none
      | some us => some ((pre ++ f.fl).length, acc ++ us)
  | .nil, d, p, pre, post, vs, acc, _, _, hl => by
    obtain rfl : vs = [] := List.eq_nil_of_length_eq_zero hl
    show some (pre.length, acc) = some _
    simp [F.fl]
  | .node o n k r, d, p, pre, post, vs, acc, hk, hp, hl => by
    obtain ⟨e, rfl, h1, h2, h3, h4⟩ := F.ok_node hk
    cases vs with
    | nil => cases hl
    | cons v vs =>
      have hp1 : p = pre ++ (o, n, (k.cnt : Int)) :: (k.fl ++ (r.fl ++ post)) := by rw [hp]; simp [F.fl]
      have hg : p[pre.length]? = some (o, n, (k.cnt : Int)) := by rw [hp1]; exact pre_get
      have hl1 : (pre ++ [(o, n, (k.cnt : Int))]).length = pre.length + 1 := by simp
      unfold mLoop mtch F.mt
      rw [hg]
      simp only
      cases hs : splitR (o, n, (k.cnt : Int)) v with
      | none => rfl
      | some l =>
        have hll : l.length = k.cnt := by have : (l.length : Int) = (k.cnt : Int) := splitR_len h1 hs; omega
        have i1 := mt_f k e p (pre ++ [(o, n, (k.cnt : Int))]) (r.fl ++ post) l (if o = 30 then [v] else []) h3 (by rw [hp1]; simp) hll
        rw [hl1] at i1
        simp only
        rw [i1]
        cases hm : k.mt l with
        | none => rfl
        | some a =>
          have i2 := mt_f r (e + 1) p (pre ++ [(o, n, (k.cnt : Int))] ++ k.fl) post vs (acc ++ ((if o = 30 then [v] else []) ++ a)) h4 (by rw [hp1]; simp) (by have : vs.length + 1 = r.cnt + 1 := hl; omega)
          simp only
          rw [i2]
          cases r.mt vs with
          | none => rfl
          | some b => simp [F.fl]
theorem match_t {o n : Int} {k : F} (h : (F.node o n k .nil).ok 64 = true) (hl : (F.node o n k .nil).fl.length ≤ 8192) (v : ByteArray) : matchR (F.node o n k .nil).fl v = if valB 32 v = true then (F.node o n k .nil).mt [v] else none := by
  unfold matchR
  rw [isPat_t h hl]
  by_cases hv : valB 32 v = true
  · rw [if_pos ⟨rfl, hv⟩, if_pos hv]
    have := mt_f (.node o n k .nil) 64 (F.node o n k .nil).fl [] [] [v] [] h (by simp) rfl
    unfold mLoop at this
    simp only [List.length_nil, List.nil_append] at this
    cases hm : mtch 64 (F.node o n k .nil).fl 0 v with
    | none =>
      rw [hm] at this
      cases hq : (F.node o n k .nil).mt [v] with
      | none => rfl
      | some us => rw [hq] at this; cases this
    | some q =>
      rw [hm] at this
      unfold mLoop at this
      simp only at this
      cases hq : (F.node o n k .nil).mt [v] with
      | none => rw [hq] at this; cases this
      | some us =>
        rw [hq] at this
        simp only [Option.some.injEq] at this
        show some q.2 = some us
        exact congrArg some (congrArg Prod.snd this)
  · rw [if_neg (fun q => hv q.2), if_neg hv]
/-- the values of the trees, and what is left of the variables' values -/
def F.bd : F → List ByteArray → Option (List ByteArray × List ByteArray)
  | .nil, vs => some ([], vs)
  | .node o n k r, vs => match (if o = 30 then (match vs with
      | [] => none
      | v :: q => some (v, q))
      else match k.bd vs with
      | none => none
      | some (l, q) => some (joinR (o, n, (k.cnt : Int)) l, q)) with
    | none => none
    | some (v, q) => match r.bd q with
      | none => none
      | some (a, q2) => some (v :: a, q2)
theorem perm_var {n : Int} {kids : Int} (h : permL (30, n, kids) = true) : kids = 0 := by
  have e : permL (30, n, kids) = decide (n = 0 ∧ kids = 0) := by unfold permL; rw [if_pos (Or.inl rfl)]
  rw [h] at e
  exact (of_decide_eq_true e.symm).2
theorem cnt_nil : ∀ {k : F}, k.cnt = 0 → k = .nil
  | .nil, _ => rfl
  | .node _ _ _ _, h => by cases h
theorem bd_f : ∀ (f : F) (d : Nat) (p pre post : List Cd) (vs acc : List ByteArray), f.ok d = true → p = pre ++ f.fl ++ post →
    bLoop (bld d p) f.cnt pre.length vs acc = match f.bd vs with
      | none => none
      | some (a, q) => some (acc ++ a, (pre ++ f.fl).length, q)
  | .nil, d, p, pre, post, vs, acc, _, _ => by
    show some (acc, pre.length, vs) = some _
    simp [F.fl]
  | .node o n k r, d, p, pre, post, vs, acc, hk, hp => by
    obtain ⟨e, rfl, h1, h2, h3, h4⟩ := F.ok_node hk
    have hp1 : p = pre ++ (o, n, (k.cnt : Int)) :: (k.fl ++ (r.fl ++ post)) := by rw [hp]; simp [F.fl]
    have hg : p[pre.length]? = some (o, n, (k.cnt : Int)) := by rw [hp1]; exact pre_get
    have hl1 : (pre ++ [(o, n, (k.cnt : Int))]).length = pre.length + 1 := by simp
    have i1 := bd_f k e p (pre ++ [(o, n, (k.cnt : Int))]) (r.fl ++ post) vs [] h3 (by rw [hp1]; simp)
    rw [hl1] at i1
    have i2 := fun q acc => bd_f r (e + 1) p (pre ++ [(o, n, (k.cnt : Int))] ++ k.fl) post q acc h4 (by rw [hp1]; simp)
    have hlf : (pre ++ [(o, n, (k.cnt : Int))] ++ k.fl ++ r.fl).length = (pre ++ (F.node o n k r).fl).length := by simp [F.fl]
    show bLoop _ (r.cnt + 1) pre.length vs acc = _
    unfold bLoop bld F.bd
    rw [hg]
    simp only
    by_cases ho : o = 30
    · subst ho
      have hk0 := cnt_nil (k := k) (by have := perm_var h1; omega)
      subst hk0
      rw [if_pos rfl, if_pos rfl]
      cases vs with
      | nil => rfl
      | cons v q =>
        simp only
        have hl2 : (pre ++ [((30 : Int), n, ((F.nil.cnt : Nat) : Int))] ++ F.nil.fl).length = pre.length + 1 := by simp [F.fl]
        rw [← hl2, i2 q (acc ++ [v])]
        cases r.bd q with
        | none => rfl
        | some x => obtain ⟨a, q2⟩ := x; simp [F.fl]
    · rw [if_neg ho, if_neg ho, Int.toNat_natCast, i1]
      cases k.bd vs with
      | none => rfl
      | some x =>
        obtain ⟨l, q⟩ := x
        simp only [List.nil_append]
        rw [i2 q]
        cases r.bd q with
        | none => rfl
        | some y => obtain ⟨a, q2⟩ := y; simp [F.fl]
theorem build_t {o n : Int} {k : F} (h : (F.node o n k .nil).ok 64 = true) (hl : (F.node o n k .nil).fl.length ≤ 8192) (vs : List ByteArray) (hv : vs.length = (F.node o n k .nil).vars) (ht : totB vs ≤ 131072) :
    buildP (F.node o n k .nil).fl vs = match (F.node o n k .nil).bd vs with
      | some (v :: _, _) => if valB 32 v = true then some v else none
      | _ => none := by
  unfold buildP
  rw [if_pos ⟨isPat_t h hl, by rw [F.vars_fl]; exact hv, ht⟩]
  have := bd_f (.node o n k .nil) 64 (F.node o n k .nil).fl [] [] vs [] h (by simp)
  have e : (F.node o n k .nil).cnt = 0 + 1 := rfl
  rw [e] at this
  unfold bLoop at this
  simp only [List.length_nil, List.nil_append] at this
  cases hm : bld 64 (F.node o n k .nil).fl 0 vs with
  | none =>
    rw [hm] at this
    cases hq : (F.node o n k .nil).bd vs with
    | none => rfl
    | some us => rw [hq] at this; cases this
  | some q =>
    rw [hm] at this
    simp only [bLoop] at this
    cases hq : (F.node o n k .nil).bd vs with
    | none => rw [hq] at this; cases this
    | some us =>
      obtain ⟨a, q2⟩ := us
      rw [hq] at this
      simp only [Option.some.injEq, Prod.mk.injEq] at this
      rw [← this.1]

end Go.Proofs.YtdifpemohdnolaaGreat
namespace Go.Proofs.YtdifpemohdnolaaGreat
open Go.RowKit VM

theorem mt_node (o n : Int) (k r : F) (v : ByteArray) (vs : List ByteArray) : (F.node o n k r).mt (v :: vs) = match splitR (o, n, (k.cnt : Int)) v with
    | none => none
    | some l => match k.mt l with
      | none => none
      | some a => match r.mt vs with
        | none => none
        | some b => some ((if o = 30 then [v] else []) ++ a ++ b) := rfl
theorem F.mt_app : ∀ (f g : F) (xs bs : List ByteArray), xs.length = f.cnt → (f.app g).mt (xs ++ bs) = match f.mt xs with
    | none => none
    | some a => match g.mt bs with
      | none => none
      | some b => some (a ++ b)
  | .nil, g, xs, bs, h => by
    obtain rfl : xs = [] := List.eq_nil_of_length_eq_zero h
    show g.mt bs = match g.mt bs with | none => none | some b => some ([] ++ b)
    cases g.mt bs <;> rfl
  | .node o n k r, g, xs, bs, h => by
    cases xs with
    | nil => cases h
    | cons v vs =>
      have ih := r.mt_app g vs bs (by have : vs.length + 1 = r.cnt + 1 := h; omega)
      show (F.node o n k (r.app g)).mt (v :: (vs ++ bs)) = _
      rw [mt_node, mt_node]
      cases splitR (o, n, (k.cnt : Int)) v with
      | none => rfl
      | some l =>
        simp only
        cases k.mt l with
        | none => rfl
        | some a =>
          simp only
          rw [ih]
          cases r.mt vs with
          | none => rfl
          | some b =>
            simp only
            cases g.mt bs with
            | none => rfl
            | some c => simp
/-- a leaf -/
def leafF (o n : Int) : F := .node o n .nil .nil
theorem leaf_fl (o n : Int) : (leafF o n).fl = [(o, n, 0)] := rfl
theorem leaf_mt30 (v : ByteArray) : (leafF 30 0).mt [v] = some [v] := by
  unfold leafF F.mt
  simp only [show splitR (30, 0, (F.nil.cnt : Int)) v = some [] from rfl]
  rfl
theorem leaf_mt31 (v : ByteArray) : (leafF 31 0).mt [v] = some [] := by
  unfold leafF F.mt
  simp only [show splitR (31, 0, (F.nil.cnt : Int)) v = some [] from rfl]
  rfl
structure IrrF (m : Nat) (P : F) : Prop where
  one : ∃ o n k, P = .node o n k .nil
  ok : P.ok (m + 1) = true
  len : P.fl.length ≤ 1 + 2 * m
  irr : P.fl.any failL = false
  all_ : ∀ v, ∃ us, P.mt [v] = some us
theorem irr_start : IrrF 0 (leafF 30 0) := ⟨⟨_, _, _, rfl⟩, rfl, by decide, rfl, fun v => ⟨_, leaf_mt30 v⟩⟩
theorem one_cnt {P : F} (h : ∃ o n k, P = .node o n k .nil) : P.cnt = 1 := by obtain ⟨o, n, k, rfl⟩ := h; rfl
def bothF (P : F) (x : Int) : F := .node 40 0 (P.app (leafF x 0)) .nil
theorem both_mt {P : F} (h1 : P.cnt = 1) {x : Int} {v : ByteArray} {us a : List ByteArray} (h : P.mt [v] = some us) (hx : (leafF x 0).mt [v] = some a) : (bothF P x).mt [v] = some (us ++ a) := by
  have e : (P.app (leafF x 0)).mt [v, v] = some (us ++ a) := by
    rw [show [v, v] = [v] ++ [v] from rfl, F.mt_app P (leafF x 0) [v] [v] (by rw [h1]; rfl), h]
    simp only
    rw [hx]
  unfold bothF F.mt
  simp only [show splitR (40, 0, ((P.app (leafF x 0)).cnt : Int)) v = some [v, v] from rfl, e]
  simp [F.mt]
theorem irr_step {m : Nat} {P : F} (h : IrrF m P) {x : Int} (hx : x = 30 ∨ x = 31) : IrrF (m + 1) (bothF P x) := by
  have hc := one_cnt h.one
  have hl : (leafF x 0).fl = [(x, 0, 0)] := rfl
  have hok : (leafF x 0).ok (m + 1) = true := by rcases hx with rfl | rfl <;> rfl
  refine ⟨⟨_, _, _, rfl⟩, ?_, ?_, ?_, fun v => ?_⟩
  · unfold bothF F.ok
    rw [F.app_ok, show m + 1 + 1 - 1 = m + 1 from rfl, h.ok, hok, F.app_cnt, hc]
    rfl
  · have := h.len
    unfold bothF F.fl
    rw [F.app_fl, hl]
    simp [F.fl]
    omega
  · unfold bothF F.fl
    rw [F.app_fl, hl, List.any_cons, List.any_append, List.any_append, h.irr]
    rcases hx with rfl | rfl <;> rfl
  · obtain ⟨us, hu⟩ := h.all_ v
    rcases hx with rfl | rfl
    · exact ⟨_, both_mt hc hu (leaf_mt30 v)⟩
    · exact ⟨_, both_mt hc hu (leaf_mt31 v)⟩
/-- the pattern of tuples -/
structure TupF (m : Nat) (Q : F) : Prop where
  one : ∃ o n k, Q = .node o n k .nil
  ok : Q.ok (m + 2) = true
  len : Q.fl.length ≤ 1 + 8 * m
  irr : Q.fl.any failL = false
theorem tup_start : TupF 0 (leafF 30 0) := ⟨⟨_, _, _, rfl⟩, rfl, by decide, rfl⟩
def tupF (P Q : F) : F := .node 34 0 (P.app Q) .nil
theorem tup_step {m : Nat} {P Q : F} (hP : IrrF (m + 1) P) (hQ : TupF m Q) (hm : m ≤ 2) : TupF (m + 1) (tupF P Q) := by
  have h1 := one_cnt hP.one
  have h2 := one_cnt hQ.one
  refine ⟨⟨_, _, _, rfl⟩, ?_, ?_, ?_⟩
  · unfold tupF F.ok
    rw [F.app_ok, show m + 1 + 2 - 1 = m + 2 from rfl, hP.ok, hQ.ok, F.app_cnt, h1, h2]
    rfl
  · have := hP.len
    have := hQ.len
    unfold tupF F.fl
    rw [F.app_fl]
    simp [F.fl]
    omega
  · unfold tupF F.fl
    rw [F.app_fl, List.any_cons, List.any_append, List.any_append, hP.irr, hQ.irr]
    rfl
theorem ok64 {m : Nat} {P : F} (h : P.ok m = true) (hm : m ≤ 64) : P.ok 64 = true := F.ok_up P hm h
theorem irrB_of {P : F} (h1 : ∃ o n k, P = .node o n k .nil) (h2 : P.ok 64 = true) (h3 : P.fl.length ≤ 8192) (h4 : P.fl.any failL = false) : irrB P.fl = true := by
  obtain ⟨o, n, k, rfl⟩ := h1
  unfold irrB
  rw [isPat_t h2 h3, h4]
  rfl
theorem irr_match {m : Nat} {P : F} (h : IrrF m P) (hm : m ≤ 3) (v : ByteArray) : (matchR P.fl v).isSome = valB 32 v := by
  have hl := h.len
  obtain ⟨us, hu⟩ := h.all_ v
  have ho := ok64 h.ok (by omega)
  obtain ⟨o, n, k, rfl⟩ := h.one
  rw [match_t ho (by omega), hu]
  cases valB 32 v <;> rfl
theorem tuple_facts {ps : List ByteArray} (h : ValOK 3 (mkM 3 ps)) : kindM (mkM 3 ps) = 3 ∧ pt (mkM 3 ps) = ps := by
  have hne : mkM 3 ps ≠ ⟨#[]⟩ := by
    intro e
    rw [e] at h
    exact absurd h.1 (by decide)
  obtain ⟨h1, h2, _⟩ := made (k := 3) (by decide) hne
  refine ⟨?_, h2⟩
  have := kind_isK (s := mkM 3 ps) (k := 3) (by decide)
  rw [h1] at this
  simpa using this
theorem tup_match {m : Nat} {P : F} (h : IrrF m P) (hm : m ≤ 3) {v u : ByteArray} (hv : ValOK 2 v) (hu : ValOK 2 u) : ∃ us, matchR (tupF P (leafF 30 0)).fl (mkM 3 [v, u]) = some (us ++ [u]) := by
  have hl := h.len
  have h1 := one_cnt h.one
  have ht := ok_tuple (d := 2) (by decide) (by decide) hv hu
  obtain ⟨k1, k2⟩ := tuple_facts ht
  obtain ⟨us, hus⟩ := h.all_ v
  have hok : (tupF P (leafF 30 0)).ok 64 = true := by
    refine F.ok_up _ (d := m + 2) (by omega) ?_
    unfold tupF F.ok
    rw [F.app_ok, show m + 2 - 1 = m + 1 from rfl, h.ok, F.app_cnt, h1]
    rfl
  have hlen : (tupF P (leafF 30 0)).fl.length ≤ 8192 := by
    unfold tupF F.fl
    rw [F.app_fl, leaf_fl]
    simp [F.fl]
    omega
  refine ⟨us, ?_⟩
  unfold tupF at hok hlen ⊢
  rw [match_t hok hlen, if_pos (valB_le (by decide) ht.1)]
  have e : (P.app (leafF 30 0)).mt [v, u] = some (us ++ [u]) := by
    rw [show [v, u] = [v] ++ [u] from rfl, F.mt_app P (leafF 30 0) [v] [u] (by rw [h1]; rfl), hus]
    simp only
    rw [leaf_mt30]
  have hs : splitR (34, 0, ((P.app (leafF 30 0)).cnt : Int)) (mkM 3 [v, u]) = some [v, u] := by
    rw [F.app_cnt, h1]
    show exactR 3 2 (mkM 3 [v, u]) = _
    unfold exactR
    rw [k1, k2]
    rfl
  unfold F.mt
  simp only [hs, e]
  simp [F.mt]
/-! a row that holds a tree, beside the choices -/
structure PRow (w : World) (g : Nat) (v : Value) (P : F) : Prop where
  form : ∃ A d, v = .slice A P.fl.length d
  own : w.ownsRow (g + 1) 27 3 v P.fl.length (P.fl.flatMap cdCells)
theorem PRow.grown {w w' : World} {g : Nat} {v : Value} {P : F} (h : PRow w g v P) (hG : w.grownBy w' (some g)) : PRow w' g v P := ⟨h.form, owns_other h.own hG (row_g h.own (Nat.lt_succ_self g))⟩
theorem PRow.below {w w' : World} {g : Nat} {v : Value} {P : F} (h : PRow w g v P) (hb : Below w.heap.size w w') : PRow w' g v P := ⟨h.form, owns_below h.own hb⟩
theorem PRow.made {w w' : World} {g : Nat} {P : F} {A : Option Addr} {m d : Nat} (hg : g < w.heap.size) (hm : m = P.fl.length) (ho : w'.ownsRow w.heap.size 27 3 (.slice A m d) m (P.fl.flatMap cdCells)) : PRow w' g (.slice A m d) P := by
  subst hm
  exact ⟨⟨A, d, rfl⟩, owns_base ho hg⟩
theorem PRow.in_ {w : World} {g m d : Nat} {A : Option Addr} {P : F} (h : PRow w g (.slice A m d) P) : m = P.fl.length ∧ InC w A (P.fl.flatMap cdCells) := by
  obtain ⟨A', d', e⟩ := h.form
  cases e
  exact ⟨rfl, InC.own h.own⟩
theorem node_two (op : Int) (P Q : F) (hP : P.cnt = 1) (hQ : Q.cnt = 1) : nodeL op 0 [P.fl, Q.fl] = (F.node op 0 (P.app Q) .nil).fl := by
  show (op, 0, ((2 : Nat) : Int)) :: [P.fl, Q.fl].flatten = (op, 0, ((P.app Q).cnt : Int)) :: ((P.app Q).fl ++ [])
  rw [F.app_cnt, hP, hQ, F.app_fl]
  simp

end Go.Proofs.YtdifpemohdnolaaGreat
