/- The evaluator: regions that draw their order, by a plan; calls_of_run; package-level variables as tables. No conditions. -/
import Derived.OpenShut
import Derived.Stop.LaidErr
import Derived.LaidSub
import Derived.Test.YtaambeficfiacaaGreatDoorEvC
namespace Go.Proofs.YtaambeficfiacaaGreatDoor.Ev
open Go Go.RowKit

/-- a builtin's call has its arguments -/
def okOp (o : Oper) : Bool := match o.op with
  | .call c => (match c.callee with
    | .builtin .append => Nat.ble 2 c.args.size
    | .builtin .copy => Nat.ble 2 c.args.size
    | .builtin .delete => Nat.ble 2 c.args.size
    | .builtin .unsafeString => Nat.ble 2 c.args.size
    | .builtin _ => Nat.ble 1 c.args.size
    | _ => true)
  | _ => true
def Agree (tm tm' : T Value) (xs : Array Operand) : Prop := ∀ x, x ∈ xs → aev tm x = aev tm' x
theorem allGrd_congr {tm tm' : T Value} {xs : Array Operand} (h : Agree tm tm' xs) : allGrd tm xs = allGrd tm' xs := by
  unfold allGrd
  have : ∀ l : List Operand, (∀ x ∈ l, aev tm x = aev tm' x) → (l.all fun x => match aev tm x with | some v => grd 3 v | none => false) = (l.all fun x => match aev tm' x with | some v => grd 3 v | none => false) := by
    intro l hl
    induction l with
    | nil => rfl
    | cons x xs ih => simp only [List.all_cons, hl x (List.mem_cons_self ..), ih (fun y hy => hl y (List.mem_cons_of_mem _ hy))]
  exact this _ (fun x hx => h x (by simpa using hx))
theorem aPureK_congr {P : Program} {o : Oper} {tm tm' : T Value} (h : Agree tm tm' o.op.operands) : aPureK P o tm = aPureK P o tm' := by
  unfold aPureK
  rw [allGrd_congr h]
  cases hs : isSelect o.op with
  | true => simp
  | false =>
    have : execOp (aevD tm) o = execOp (aevD tm') o := execOp_congr o (fun cs b e => by rw [e] at hs; cases hs) fun x hx => by unfold aevD; rw [h x hx]
    rw [this]
theorem fastP_congr {o : Oper} {tm tm' : T Value} (h : Agree tm tm' o.op.operands) : fastP o tm = fastP o tm' := by
  unfold fastP
  cases hop : o.op <;> rw [hop] at h <;> (try rfl)
  case binOp op t x y t2 => simp only; rw [h x (by simp [Op.operands]), h y (by simp [Op.operands])]
  case unOp op t x => cases op <;> (try rfl); simp only; rw [h x (by simp [Op.operands])]
theorem loI_congr {tm tm' : T Value} {x : Option Operand} (h : ∀ y, x = some y → aev tm y = aev tm' y) : loI tm x = loI tm' x := by
  cases x with
  | none => rfl
  | some y => simp only [loI, h y rfl]
theorem hiI_congr {tm tm' : T Value} {n : Nat} {x : Option Operand} (h : ∀ y, x = some y → aev tm y = aev tm' y) : hiI tm n x = hiI tm' n x := by
  cases x with
  | none => rfl
  | some y => simp only [hiI, h y rfl]
theorem fastS_congr {P : Program} {o : Oper} {tm tm' : T Value} (h : Agree tm tm' o.op.operands) : fastS P o tm = fastS P o tm' := by
  unfold fastS
  cases hop : o.op <;> rw [hop] at h <;> (try rfl)
  case index t x ix =>
    show opt2 (sIndex P t) (aev tm x) (aev tm ix) = opt2 (sIndex P t) (aev tm' x) (aev tm' ix)
    rw [h x (by simp [Op.operands]), h ix (by simp [Op.operands])]
  case slice t x lo hi mx =>
    show sSliceO P tm t (aev tm x) lo hi mx = sSliceO P tm' t (aev tm' x) lo hi mx
    rw [h x (by simp [Op.operands])]
    have h1 := loI_congr (tm' := tm') (x := lo) fun y e => h y (by simp [Op.operands, e])
    have h2 : ∀ n, hiI tm n hi = hiI tm' n hi := fun n => hiI_congr fun y e => h y (by simp [Op.operands, e])
    unfold sSliceO sSliceS
    simp only [h1, h2]
  case binOp op t x y t2 =>
    show opt2 (sBin op) (aev tm x) (aev tm y) = opt2 (sBin op) (aev tm' x) (aev tm' y)
    rw [h x (by simp [Op.operands]), h y (by simp [Op.operands])]
  case convert src dst x =>
    show opt1 (sConv P src dst) (aev tm x) = opt1 (sConv P src dst) (aev tm' x)
    rw [h x (by simp [Op.operands])]
  case call c =>
    show sCall P tm c = sCall P tm' c
    unfold sCall
    cases hc : c.callee with
    | invoke r n => rfl
    | value f => rfl
    | builtin b =>
      cases b <;> try rfl
      simp only
      by_cases hz : 0 < c.args.size
      · have h0 : aev tm (c.args.getD 0 default) = aev tm' (c.args.getD 0 default) := by
          rw [Array.getD_eq_getD_getElem?, Array.getElem?_eq_getElem hz]
          exact h _ (by simp [Op.operands, Call.operands, hc])
        rw [h0]
      · have hsz : Nat.beq c.args.size 1 = false := by
          cases hb : Nat.beq c.args.size 1 with
          | false => rfl
          | true => have := Nat.eq_of_beq_eq_true hb; omega
        rw [hsz]
        cases aev tm (c.args.getD 0 default) with
        | none => cases aev tm' (c.args.getD 0 default) with
          | none => rfl
          | some v => cases v <;> (try rfl) <;> (cases (c.argTypes[0]?).bind P.underlying with | none => rfl | some d => cases d <;> rfl)
        | some u => cases u <;> cases aev tm' (c.args.getD 0 default) with
          | none => (try rfl) <;> (cases (c.argTypes[0]?).bind P.underlying with | none => rfl | some d => cases d <;> rfl)
          | some v => cases v <;> (try rfl) <;> (cases (c.argTypes[0]?).bind P.underlying with | none => rfl | some d => cases d <;> rfl)
theorem aPure_congr {P : Program} {o : Oper} {tm tm' : T Value} (h : Agree tm tm' o.op.operands) : aPure P o tm = aPure P o tm' := by
  unfold aPure
  rw [fastP_congr h, fastS_congr h, aPureK_congr h]
theorem aparts_congr {tm tm' : T Value} {ps : Array (Nat × Operand)} (h : ∀ p ∈ ps.toList, aev tm p.2 = aev tm' p.2) : aparts tm ps = aparts tm' ps := by
  unfold aparts
  generalize ps.toList = l at h
  induction l with
  | nil => rfl
  | cons p ps ih =>
    simp only [List.foldr_cons, h p (List.mem_cons_self ..), ih (fun q hq => h q (List.mem_cons_of_mem _ hq))]
theorem argsL_congr {tm tm' : T Value} {xs : Array Operand} (h : ∀ x ∈ xs.toList, aev tm x = aev tm' x) : argsL tm xs = argsL tm' xs := by
  unfold argsL
  generalize xs.toList = l at h
  induction l with
  | nil => rfl
  | cons p ps ih =>
    simp only [List.foldr_cons, h p (List.mem_cons_self ..), ih (fun q hq => h q (List.mem_cons_of_mem _ hq))]
theorem optI_congr {tm tm' : T Value} {x : Option Operand} (h : ∀ y, x = some y → aev tm y = aev tm' y) : optI tm x = optI tm' x := by
  cases x with
  | none => rfl
  | some y => simp only [optI, h y rfl]
theorem optIdx_congr {tm tm' : T Value} {d : Nat} {x : Option Operand} (h : ∀ y, x = some y → aev tm y = aev tm' y) : optIdx tm d x = optIdx tm' d x := by
  cases x with
  | none => rfl
  | some y => simp only [optIdx, h y rfl]
theorem aBuiltinP_congr {P : Program} {b : Builtin} {c : Call} {o : Oper} {tm tm' : T Value} (hp : aPure P o tm = aPure P o tm') (hw : 0 < c.args.size) (h : ∀ x ∈ c.args.toList, aev tm x = aev tm' x) : aBuiltinP P b c o tm = aBuiltinP P b c o tm' := by
  have h0 : aev tm (c.args.getD 0 default) = aev tm' (c.args.getD 0 default) := by
    rw [Array.getD_eq_getD_getElem?, Array.getElem?_eq_getElem hw]
    exact h _ (by simp)
  unfold aBuiltinP
  cases b <;> simp only [h0, hp]
theorem aopP_congr {P : Program} {o : Oper} {tm tm' : T Value} (hw : okOp o = true) (h : Agree tm tm' o.op.operands) : aopP P o tm = aopP P o tm' := by
  have hp := aPure_congr (P := P) h
  unfold aopP
  cases hop : o.op <;> rw [hop] at h <;> (try simp only)
  all_goals try exact hp
  case move x => exact h x (by simp [Op.operands])
  case assign x => exact h x (by simp [Op.operands])
  case pick c a b =>
    rw [h c (by simp [Op.operands])]
    split
    · rename_i t _
      cases t
      · exact h b (by simp [Op.operands])
      · exact h a (by simp [Op.operands])
    · rfl
  case build t ps => rw [aparts_congr fun p hq => h p.2 (by simp only [Op.operands, List.mem_toArray, List.mem_map]; exact ⟨p, hq, rfl⟩)]
  case nilCheck x => rw [h x (by simp [Op.operands])]
  case slice t x lo hi mx =>
    rw [h x (by simp [Op.operands]), optI_congr (x := hi) (tm' := tm') fun y e => h y (by simp [Op.operands, e]), optI_congr (x := mx) (tm' := tm') fun y e => h y (by simp [Op.operands, e]), optIdx_congr (x := lo) (tm' := tm') fun y e => h y (by simp [Op.operands, e]), hp]
  case fieldAddr s x f => rw [h x (by simp [Op.operands])]
  case field t x f => rw [h x (by simp [Op.operands])]
  case indexAddr t x ix => rw [h x (by simp [Op.operands]), h ix (by simp [Op.operands])]
  case extract t ix => rw [h t (by simp [Op.operands])]
  case makeInterface t x => rw [h x (by simp [Op.operands])]
  case makeFunc fn first captured =>
    rw [argsL_congr (xs := first) (tm' := tm') fun x hx => h x (by simp only [Op.operands, Array.mem_append]; exact .inl (by simpa using hx)), argsL_congr (xs := captured) (tm' := tm') fun x hx => h x (by simp only [Op.operands, Array.mem_append]; exact .inr (by simpa using hx))]
  case binOp b t x y t2 =>
    have h1 := h x (by simp [Op.operands])
    have h2 := h y (by simp [Op.operands])
    cases b <;> simp only [h1, h2, hp]
  case convert src dst x => rw [h x (by simp [Op.operands]), hp]
  case call c =>
    cases hc : c.callee with
    | builtin b => exact aBuiltinP_congr hp (by
        unfold okOp at hw
        rw [hop] at hw
        simp only [hc] at hw
        cases b <;> (have := Nat.le_of_ble_eq_true hw; omega)) fun x hx => h x (by simp only [Op.operands, Call.operands, hc, Array.mem_append]; exact .inr (by simpa using hx))
    | value f =>
      simp only [h f (by simp [Op.operands, Call.operands, hc]), hp]
      cases hf : aev tm' f with
      | none => rfl
      | some fv =>
        cases fv <;> try rfl
        rename_i fn xs us
        cases fn <;> try rfl
        rename_i g
        simp only
        cases hg : P.funcs[g]? with
        | none => rfl
        | some fnc =>
          simp only
          cases hb : fnc.body.isSome with
          | true => rfl
          | false =>
            simp only [cond_false]
            cases hq : (fnc.name == "internal/abi.NoEscape" && fnc.origin == "" && Nat.beq c.args.size 1 && Nat.beq xs.size 0 && Nat.beq us.size 0) with
            | false => rfl
            | true =>
              simp only [cond_true]
              simp only [Bool.and_eq_true] at hq
              have q3 := Nat.eq_of_beq_eq_true hq.1.1.2
              rw [Array.getD_eq_getD_getElem?, Array.getElem?_eq_getElem (by omega)]
              exact h _ (by simp [Op.operands, Call.operands, hc])
    | _ => rfl
theorem aCall_congr {P : Program} {c : Call} {o : Oper} {st : St} {tm tm' : T Value} (hw : okOp o = true) (hop : o.op = .call c) (hp : aopP P o tm = aopP P o tm') (h : Agree tm tm' c.operands) : aCall P c o st tm = aCall P c o st tm' := by
  have ha : ∀ x ∈ c.args.toList, aev tm x = aev tm' x := fun x hx => h x (by simp only [Call.operands, Array.mem_append]; exact .inr (by simpa using hx))
  have hd : ∀ k, k < c.args.size → aev tm (c.args.getD k default) = aev tm' (c.args.getD k default) := by
    intro k q
    rw [Array.getD_eq_getD_getElem?, Array.getElem?_eq_getElem q]
    exact ha _ (by simp)
  unfold okOp at hw
  rw [hop] at hw
  unfold aCall
  cases hc : c.callee with
  | builtin b =>
    simp only [hc] at hw
    cases b <;> first
      | (simp only [hp]; done)
      | (have := Nat.le_of_ble_eq_true hw; simp only [hd 0 (by omega), hp]; done)
      | (have := Nat.le_of_ble_eq_true hw; simp only [hd 0 (by omega), hd 1 (by omega)]; done)
      | (have := Nat.le_of_ble_eq_true hw; simp only [hd 0 (by omega), hd 1 (by omega)]; done)
  | value f => simp only [h f (by simp [Call.operands, hc]), argsL_congr ha, hp]
  | _ => simp only [hp]
theorem aop_congr {P : Program} {o : Oper} {st : St} {tm tm' : T Value} (hw : okOp o = true) (h : Agree tm tm' o.op.operands) : aop P o st tm = aop P o st tm' := by
  have hp := aopP_congr (P := P) hw h
  unfold aop
  cases hop : o.op <;> rw [hop] at h <;> (try simp only)
  all_goals try exact congrArg (fun r => ofP r st) hp
  case box e x => rw [h x (by simp [Op.operands])]
  case buildSlice t len ps => rw [aparts_congr fun p hq => h p.2 (by simp only [Op.operands, List.mem_toArray, List.mem_map]; exact ⟨p, hq, rfl⟩)]
  case load t a => rw [h a (by simp [Op.operands])]
  case store t a x => rw [h a (by simp [Op.operands]), h x (by simp [Op.operands])]
  case makeSlice t l c => rw [h l (by simp [Op.operands]), h c (by simp [Op.operands])]
  case convert src dst x => rw [h x (by simp [Op.operands]), hp]
  case call c => exact aCall_congr hw hop hp h
  case binOp b t x y t2 =>
    have h1 := h x (by simp [Op.operands])
    have h2 := h y (by simp [Op.operands])
    cases b <;> simp only [hp, aCmp, h1, h2]
  case makeMap t r =>
    cases r with
    | none => rfl
    | some x => simp only; rw [h x (by simp [Op.operands])]
  case lookup t x k ok => rw [h x (by simp [Op.operands]), h k (by simp [Op.operands])]
  case mapUpdate t m k x => rw [h m (by simp [Op.operands]), h k (by simp [Op.operands]), h x (by simp [Op.operands])]
  case insert t m k x => rw [h m (by simp [Op.operands]), h k (by simp [Op.operands]), h x (by simp [Op.operands])]
  case mapEntry t m k => rw [h m (by simp [Op.operands]), h k (by simp [Op.operands])]
  case entryStore t m k x => rw [h m (by simp [Op.operands]), h k (by simp [Op.operands]), h x (by simp [Op.operands])]
  case range t x => rw [h x (by simp [Op.operands])]
  case next x isS => rw [h x (by simp [Op.operands])]
  case entry x => rw [h x (by simp [Op.operands])]
  case defer c =>
    cases hc : c.callee with
    | value f => simp only [h f (by simp [Op.operands, Call.operands, hc]), argsL_congr (xs := c.args) (tm' := tm') fun x hx => h x (by simp only [Op.operands, Call.operands, Array.mem_append]; exact .inr (by simpa using hx))]
    | _ => rfl

/-! temporaries -/
noncomputable def maskL (ds : List Nat) (tm : T Value) : T Value := ds.foldr (fun d t => t.put d none) tm
theorem get_mask (ds : List Nat) (tm : T Value) (t : Nat) : (maskL ds tm).get t = if t ∈ ds then none else tm.get t := by
  unfold maskL
  induction ds with
  | nil => simp
  | cons d ds ih =>
    rw [List.foldr_cons, T.get_put]
    by_cases q : t = d
    · simp [q]
    · rw [if_neg q, ih]
      by_cases q2 : t ∈ ds
      · simp [q, q2]
      · simp [q, q2]
theorem TR.sub {ρ : Ren} {N : Nat} {tm tm' : T Value} {a : Act} (h : TR ρ N tm a) (hk : tm'.get dKey = tm.get dKey) (hs : ∀ t v, t ≠ dKey → tm'.get t = some v → tm.get t = some v) : TR ρ N tm' a :=
  ⟨h.size, h.le, h.glob, by rw [hk]; exact h.defers, fun t v q e => h.val t v q (hs t v q e)⟩
theorem tget_same {tm tm' : T Value} {t : Nat} (h : t ≠ dKey → tm'.get t = tm.get t) : tget tm' t = tget tm t := by
  unfold tget
  cases hb : Nat.beq t dKey with
  | true => rfl
  | false => simp only [cond_false]; exact h (by rintro rfl; rw [Nat.beq_refl] at hb; cases hb)
theorem aev_same {tm tm' : T Value} {x : Operand} (h : ∀ t, x = .tmp t → t ≠ dKey → tm'.get t = tm.get t) : aev tm' x = aev tm x := by
  cases x with
  | tmp t => exact tget_same (h t rfl)
  | _ => rfl
theorem mem_looks {ops : Array Oper} {o : Oper} {t : Nat} (h : Operand.tmp t ∈ o.op.operands) : t ∈ o.looksAt ops := by
  unfold Oper.looksAt
  refine List.mem_append.2 (.inl (List.mem_filterMap.2 ⟨.tmp t, by simpa using h, rfl⟩))
theorem agree_of {ops : Array Oper} {tm tm' : T Value} {o : Oper} (h : ∀ t, t ∈ o.looksAt ops → t ≠ dKey → tm'.get t = tm.get t) : Agree tm' tm o.op.operands := by
  intro x hx
  exact aev_same fun t e hk => h t (mem_looks (by rw [← e]; exact hx)) hk
theorem wanted_same {ops : Array Oper} {tm tm' : T Value} {o : Oper} (h : ∀ t, t ∈ o.looksAt ops → t ≠ dKey → tm'.get t = tm.get t) : wantedA ops o tm' = wantedA ops o tm := by
  unfold wantedA
  cases hg : o.guard with
  | none => rfl
  | some jw =>
    obtain ⟨j, want⟩ := jw
    simp only
    cases hd : (ops[j]?).bind (·.dst) with
    | none => rfl
    | some d =>
      simp only
      have : tget tm' d = tget tm d := tget_same (h d (by unfold Oper.looksAt; rw [hg]; simp only [hd, Option.toList, List.mem_append]; exact .inr (by simp)))
      rw [this]

/-! numbers below a bound -/
def vlt : Nat → Nat → Value → Bool
  | 0, _, _ => false
  | d + 1, k, v => match v with
    | .pointer (some ⟨b, _, _⟩) => Nat.blt b k
    | .slice (some ⟨b, _, _⟩) _ _ => Nat.blt b k
    | .map (some b) => Nat.blt b k
    | .iface _ v => vlt d k v
    | .agg cs => cs.toList.all (vlt d k)
    | .tuple vs => vs.toList.all (vlt d k)
    | .func _ xs ys => xs.toList.all (vlt d k) && ys.toList.all (vlt d k)
    | _ => true
def cutR (ρ : Ren) (k : Nat) : Ren := fun i => if i < k then ρ i else none
theorem cutR_sub (ρ : Ren) (k : Nat) : Sub (cutR ρ k) ρ := by
  intro i t e
  unfold cutR at e
  by_cases q : i < k
  · rwa [if_pos q] at e
  · rw [if_neg q] at e; cases e
theorem cutR_lt {ρ : Ren} {k i : Nat} {t : Tgt} (hi : i < k) (h : ρ i = some t) : cutR ρ k i = some t := by unfold cutR; rw [if_pos hi]; exact h
theorem VR.cut {ρ : Ren} {k : Nat} (hk : 4 ≤ k) {v u : Value} (h : VR ρ v u) : ∀ d, vlt d k v = true → VR (cutR ρ k) v u := by
  induction h with
  | bool b => exact fun _ _ => .bool b
  | int q n => exact fun _ _ => .int q n
  | float q n => exact fun _ _ => .float q n
  | complex q n m => exact fun _ _ => .complex q n m
  | string s => exact fun _ _ => .string s
  | nilp => exact fun _ _ => .nilp
  | nils n c => exact fun _ _ => .nils n c
  | nilm => exact fun _ _ => .nilm
  | sle h => intro d hd; cases d with | zero => cases hd | succ d => exact .sle (cutR_lt (blt_lt hd) h)
  | nilFunc => exact fun _ _ => .nilFunc
  | nilIface => exact fun _ _ => .nilIface
  | ptr h => intro d hd; cases d with | zero => cases hd | succ d => exact .ptr (cutR_lt (blt_lt hd) h)
  | mp h => intro d hd; cases d with | zero => cases hd | succ d => exact .mp (cutR_lt (blt_lt hd) h)
  | yieldf h => intro d hd; cases d with | zero => cases hd | succ d => exact .yieldf (cutR_lt (blt_lt hd) h)
  | sl h hn => intro d hd; cases d with | zero => cases hd | succ d => exact .sl (cutR_lt (blt_lt hd) h) hn
  | sym h hr hn => intro d hd; exact .sym (cutR_lt (by omega) h) hr hn
  | iface t h ih => intro d hd; cases d with | zero => cases hd | succ d => exact .iface t (ih d hd)
  | agg h h2 ih =>
    intro d hd; cases d with
    | zero => cases hd
    | succ d =>
      have hd' := List.all_eq_true.1 (show List.all _ _ = true from hd)
      exact .agg h fun i x y hx hy => ih i x y hx hy d (hd' x (by simpa using Array.mem_of_getElem? hx))
  | tuple h h2 ih =>
    intro d hd; cases d with
    | zero => cases hd
    | succ d =>
      have hd' := List.all_eq_true.1 (show List.all _ _ = true from hd)
      exact .tuple h fun i x y hx hy => ih i x y hx hy d (hd' x (by simpa using Array.mem_of_getElem? hx))
  | func fn h h2 h3 h4 ih ih2 =>
    intro d hd; cases d with
    | zero => cases hd
    | succ d =>
      have hd' : (_ && _) = true := hd
      rw [Bool.and_eq_true] at hd'
      have h1' := List.all_eq_true.1 hd'.1
      have h2' := List.all_eq_true.1 hd'.2
      exact .func fn h (fun i x y hx hy => ih i x y hx hy d (h1' x (by simpa using Array.mem_of_getElem? hx))) h3 (fun i x y hx hy => ih2 i x y hx hy d (h2' x (by simpa using Array.mem_of_getElem? hx)))
noncomputable def opsLt (k : Nat) (tm : T Value) (o : Oper) : Bool := o.op.operands.toList.all fun x => match x with
  | .tmp t => (match tget tm t with | some v => vlt 5 k v | none => true)
  | _ => true
/-- the temporaries that an operation looks at -/
noncomputable def addO (tm : T Value) (x : Operand) (t : T Value) : T Value := match x with
  | .tmp d => t.put d (tm.get d)
  | _ => t
noncomputable def onlyL (l : List Operand) (tm : T Value) : T Value := (l.foldr (addO tm) T.leaf).put dKey none
theorem get_only (l : List Operand) (tm : T Value) (t : Nat) : (t ≠ dKey → Operand.tmp t ∈ l → (onlyL l tm).get t = tm.get t) ∧ (∀ v, (onlyL l tm).get t = some v → t ≠ dKey ∧ Operand.tmp t ∈ l ∧ tm.get t = some v) := by
  have key : (Operand.tmp t ∈ l → (l.foldr (addO tm) T.leaf).get t = tm.get t) ∧ (Operand.tmp t ∉ l → (l.foldr (addO tm) T.leaf).get t = none) := by
    induction l with
    | nil => exact ⟨fun h => (by cases h), fun _ => by simp [T.get_leaf]⟩
    | cons x l ih =>
      have other : (∀ d, x ≠ .tmp d) → (Operand.tmp t ∈ x :: l ↔ Operand.tmp t ∈ l) := fun h => ⟨fun q => (List.mem_cons.1 q).resolve_left (fun e => h t e.symm), fun q => List.mem_cons_of_mem _ q⟩
      rw [List.foldr_cons]
      cases x with
      | tmp d =>
        show (_ → (T.put _ d (tm.get d)).get t = _) ∧ (_ → (T.put _ d (tm.get d)).get t = _)
        rw [T.get_put]
        by_cases q : t = d
        · subst q; exact ⟨fun _ => by rw [if_pos rfl], fun h => absurd (List.mem_cons_self ..) h⟩
        · rw [if_neg q]
          have e : Operand.tmp t ∈ Operand.tmp d :: l ↔ Operand.tmp t ∈ l := ⟨fun r => (List.mem_cons.1 r).resolve_left (fun e => q (by injection e)), fun r => List.mem_cons_of_mem _ r⟩
          exact ⟨fun h => ih.1 (e.1 h), fun h => ih.2 (fun r => h (e.2 r))⟩
      | const c => exact ⟨fun h => ih.1 ((other (fun d e => by cases e)).1 h), fun h => ih.2 (fun r => h ((other (fun d e => by cases e)).2 r))⟩
      | func c => exact ⟨fun h => ih.1 ((other (fun d e => by cases e)).1 h), fun h => ih.2 (fun r => h ((other (fun d e => by cases e)).2 r))⟩
      | global c => exact ⟨fun h => ih.1 ((other (fun d e => by cases e)).1 h), fun h => ih.2 (fun r => h ((other (fun d e => by cases e)).2 r))⟩
  unfold onlyL
  rw [T.get_put]
  refine ⟨fun h1 h2 => by rw [if_neg h1]; exact key.1 h2, fun v h => ?_⟩
  by_cases q : t = dKey
  · rw [if_pos q] at h; cases h
  · rw [if_neg q] at h
    refine ⟨q, ?_⟩
    by_cases q2 : Operand.tmp t ∈ l
    · exact ⟨q2, by rw [← key.1 q2]; exact h⟩
    · rw [key.2 q2] at h; cases h

/-! operations that make one block out of their operands -/
def isMake (o : Oper) : Bool := match o.op with
  | .alloc _ => true
  | .box _ _ => true
  | .buildSlice _ _ _ => true
  | _ => false
theorem make_any {P : Program} {o : Oper} {st st' : St} {tm : T Value} {v : Value} (hm : isMake o = true) (e : aop P o st tm = .val v st') :
    ∃ b, st' = ⟨st.heap.set st.next b, st.next + 1, st.minw, st.obs⟩ ∧ ∀ st2 : St, st2.next = st.next → aop P o st2 tm = .val v ⟨st2.heap.set st2.next b, st2.next + 1, st2.minw, st2.obs⟩ := by
  have box : ∀ (el : TypeId) (l : List Value), ofV (aBox el l st) = .val v st' → ∃ b, st' = ⟨st.heap.set st.next b, st.next + 1, st.minw, st.obs⟩ ∧ ∀ st2 : St, st2.next = st.next → ofV (aBox el l st2) = .val v ⟨st2.heap.set st2.next b, st2.next + 1, st2.minw, st2.obs⟩ := by
    intro el l e
    cases e
    refine ⟨_, rfl, fun st2 h2 => ?_⟩
    show AR.val (.pointer (some ⟨st2.next, 0, none⟩)) (newBlk st2 _ _ _ _ _) = AR.val (.pointer (some ⟨st.next, 0, none⟩)) _
    unfold newBlk
    rw [h2]
  unfold aop at e ⊢
  unfold isMake at hm
  cases hop : o.op <;> rw [hop] at e hm <;> (try (cases hm; done)) <;> simp only at e ⊢
  case alloc el =>
    cases hz : (P.info? el).bind (·.zero) with
    | none => rw [hz] at e; cases e
    | some z =>
      rw [hz] at e
      simp only at e ⊢
      cases hg : grd 3 z with
      | false => rw [hg] at e; cases e
      | true => rw [hg] at e; simp only [cond_true] at e ⊢; exact box el _ e
  case box el x =>
    cases hv : aev tm x with
    | none => rw [hv] at e; cases e
    | some y => rw [hv] at e; exact box el _ e
  case buildSlice t len ps =>
    cases hv : aparts tm ps with
    | none => rw [hv] at e; cases e
    | some l =>
      rw [hv] at e
      simp only at e ⊢
      unfold aBuildSlice at e ⊢
      cases hd : P.underlying t with
      | none => rw [hd] at e; cases e
      | some d =>
        rw [hd] at e
        cases d <;> try (simp only [ofV] at e; cases e; done)
        rename_i el
        simp only at e ⊢
        cases hi : P.info? el with
        | none => rw [hi] at e; cases e
        | some i =>
          rw [hi] at e
          simp only at e ⊢
          cases hz : i.zero with
          | none => rw [hz] at e; cases e
          | some z =>
            rw [hz] at e
            simp only at e ⊢
            cases hc : (Nat.blt (len * i.size) 16777216 && Nat.blt len 16777216 && grd 3 z) with
            | false => rw [hc] at e; cases e
            | true =>
              rw [hc] at e
              simp only [cond_true] at e ⊢
              cases hf : Instr.fill (fun j => some (j * i.size, i.size)) ((Array.range (len * i.size)).map (z.cells[· % z.cells.size]!)) l with
              | none => rw [hf] at e; cases e
              | some cs =>
                rw [hf] at e
                cases e
                refine ⟨_, rfl, fun st2 h2 => ?_⟩
                show AR.val (.slice (some ⟨st2.next, 0, none⟩) len len) (newBlk st2 _ _ _ _ _) = AR.val (.slice (some ⟨st.next, 0, none⟩) len len) _
                unfold newBlk
                rw [h2]
/-- a block that the run has already comes into the world -/
theorem realize {P : Program} {w0 w : World} {gh : Nat → Prop} {ρ : Ren} {st : St} {N : Nat} {tm : T Value} {a : Act} (h : Rel ⟨w0, gh⟩ ρ st w) (ht : TR ρ N tm a) {o : Oper} (hw : okOp o = true) {id : Nat} {b : Blk} {v : Value}
    (he : aop P o ⟨.leaf, id, 0, .leaf⟩ tm = .val v ⟨T.set .leaf id b, id + 1, 0, .leaf⟩) (hlt : opsLt id tm o = true) (h204 : 204 ≤ id) (hg : gh id) (hb : st.heap.get id = some b) (hn : 0 < b.n) (hfz : b.frz = 0) :
    ∃ ρ' u w', Sub ρ ρ' ∧ (execOp a.eval o).run P w = .ok (.value u) w' ∧ VR ρ' v u ∧ Rel ⟨w0, fun k => gh k ∧ k ≠ id⟩ ρ' st w' := by
  obtain ⟨hid0, hidn⟩ := h.gho id hg
  have hR : Rel ⟨w, fun i => i < id ∧ ρ i = none⟩ (cutR ρ id) ⟨.leaf, id, 0, .leaf⟩ w := by
    refine ⟨Below.refl _ _, fun i hi => ⟨?_, by simp [T.get_leaf]⟩, fun i b t hb => by simp [T.get_leaf] at hb, fun i j a b s t hi => by simp [T.get_leaf] at hi, fun i hi => ⟨?_, hi.1⟩, fun _ _ _ ho => (by simp [T.get_leaf] at ho), fun _ _ => T.get_leaf _, fun _ _ _ _ _ _ hi => (by simp [T.get_leaf] at hi), fun _ _ _ hb => (by simp [T.get_leaf] at hb)⟩
    · unfold cutR; rw [if_neg (Nat.not_lt.2 hi)]
    · unfold cutR; rw [if_pos hi.1]; exact hi.2
  have hT : TR (cutR ρ id) N (onlyL o.op.operands.toList tm) { a with defers := [] } := by
    refine ⟨ht.size, ht.le, fun g hgl => cutR_lt (by omega) (ht.glob g hgl), ?_, fun t x hk hx => ?_⟩
    · have : (onlyL o.op.operands.toList tm).get dKey = none := by
        cases hq : (onlyL o.op.operands.toList tm).get dKey with
        | none => rfl
        | some x => exact absurd rfl ((get_only _ _ _).2 x hq).1
      rw [this]; rfl
    · obtain ⟨q1, q2, q3⟩ := (get_only _ _ _).2 x hx
      obtain ⟨u, r1, r2⟩ := ht.val t x hk q3
      have := List.all_eq_true.1 hlt _ q2
      have q4 : tget tm t = some x := by
        unfold tget
        cases hbq : Nat.beq t dKey with
        | true => exact absurd (Nat.eq_of_beq_eq_true hbq) hk
        | false => exact q3
      simp only [q4] at this
      exact ⟨u, r1.cut (by omega) 5 this, r2⟩
  have hA : Agree (onlyL o.op.operands.toList tm) tm o.op.operands := by
    intro x hx
    exact aev_same fun t e hk => (get_only _ _ _).1 hk (by rw [← e]; simpa using hx)
  have hs := aop_sound hR hT o (P := P)
  rw [aop_congr hw hA, he] at hs
  obtain ⟨ρ', u, w', s1, s2, s3, s4, _⟩ := hs
  have hb4 := s4.below
  have hlow : ∀ i, i < id → ρ' i = ρ i := by
    intro i hi
    cases hr : ρ i with
    | none => exact (s4.gho i ⟨hi, hr⟩).1
    | some t => exact s1 i t (cutR_lt hi hr)
  have hhigh : ∀ i, id + 1 ≤ i → ρ' i = none := fun i hi => (s4.dom i hi).1
  have hsub : Sub ρ (fun i => if i = id then ρ' id else ρ i) := by
    intro i t e
    have : i ≠ id := by intro q; rw [q, hid0] at e; cases e
    simp only [if_neg this]; exact e
  have hsub2 : Sub ρ' (fun i => if i = id then ρ' id else ρ i) := by
    intro i t e
    by_cases q : i = id
    · simp only [if_pos q]; rw [← q]; exact e
    · simp only [if_neg q]
      rcases Nat.lt_or_ge i id with q2 | q2
      · rw [← hlow i q2]; exact e
      · rw [hhigh i (by omega)] at e; cases e
  have hget : (T.set .leaf id b : T Blk).get id = some b := by rw [T.get_set, if_pos rfl]
  have hnew : ∀ t, ρ' id = some t → w.heap.size ≤ t.blk ∧ ∃ cs fr, BR ⟨w0, fun k => gh k ∧ k ≠ id⟩ w' (fun i => if i = id then ρ' id else ρ i) b t cs fr := by
    intro t e
    obtain ⟨cs, fr, B⟩ := s4.have_ id b t hget e
    have hl : w.heap.size ≤ t.blk := B.lo.resolve_right (fun q => by omega)
    exact ⟨hl, cs, fr, .inl (Nat.le_trans h.below.size hl), B.at_, (B.mono hsub2).cell, B.exact_, B.room, B.thaw, B.ty, B.calm⟩
  have hold : ∀ {i b t}, st.heap.get i = some b → ρ i = some t → t.blk < w.heap.size := by
    intro i b t hb ht
    obtain ⟨cs, fr, B⟩ := h.have_ i b t hb ht
    exact (Array.getElem?_eq_some_iff.1 B.at_).1
  have hren : ∀ i o t, st.obs.get i = some o → (if i = id then ρ' id else ρ i) = some t → ρ i = some t := by
    intro i o t ho ht
    by_cases q : i = id
    · rw [q] at ho; exact (h.odis id b o hb ho).elim
    · rwa [if_neg q] at ht
  refine ⟨fun i => if i = id then ρ' id else ρ i, u, w', hsub, s2, s3.mono hsub2, ?_⟩
  refine ⟨h.below.trans (hb4.mono h.below.size), ?_, ?_, ?_, ?_, h.obs_of rfl (Nat.le_refl _) hsub hren (fun k ob hk hc => (hb4.block _ (Array.getElem?_eq_some_iff.1 hk).1).trans hk), h.odom, h.oinj_of rfl hren, h.odis⟩
  · intro i hi
    obtain ⟨q1, q2⟩ := h.dom i hi
    exact ⟨by simp only [if_neg (show i ≠ id by omega)]; exact q1, q2⟩
  · intro i b2 t hb2 ht2
    by_cases q : i = id
    · subst q
      rw [hb] at hb2; cases hb2
      simp only [if_true] at ht2
      exact (hnew t ht2).2
    · simp only [if_neg q] at ht2
      obtain ⟨cs, fr, B⟩ := h.have_ i b2 t hb2 ht2
      exact ⟨cs, fr, B.lo, (hb4.block _ (hold hb2 ht2)).trans B.at_, (B.mono hsub).cell, B.exact_, B.room, B.thaw, B.ty, B.calm⟩
  · intro i j b1 b2 s t hi hj hs ht2 e
    by_cases q1 : i = id <;> by_cases q2 : j = id
    · rw [q1, q2]
    · simp only [if_pos q1] at hs; simp only [if_neg q2] at ht2
      have := (hnew s hs).1; have := hold hj ht2; omega
    · simp only [if_pos q2] at ht2; simp only [if_neg q1] at hs
      have := (hnew t ht2).1; have := hold hi hs; omega
    · simp only [if_neg q1] at hs; simp only [if_neg q2] at ht2
      exact h.inj i j b1 b2 s t hi hj hs ht2 e
  · rintro k ⟨q1, q2⟩
    obtain ⟨r1, r2⟩ := h.gho k q1
    exact ⟨by simp only [if_neg q2]; exact r1, r2⟩

/-! equality of states -/
def eqA (a b : Addr) : Bool := Nat.beq a.block b.block && Nat.beq a.off b.off && a.spot.isNone && b.spot.isNone
def eqL {α : Type} (f : α → α → Bool) : List α → List α → Bool
  | [], [] => true
  | x :: xs, y :: ys => f x y && eqL f xs ys
  | _, _ => false
def eqV : Nat → Value → Value → Bool
  | 0, _, _ => false
  | d + 1, x, y => match x, y with
    | .bool a, .bool b => a == b
    | .int k n, .int j m => decide (k = j) && decide (n = m)
    | .string s, .string t => decide (s = t)
    | .pointer none, .pointer none => true
    | .pointer (some a), .pointer (some b) => eqA a b
    | .slice none n c, .slice none m e => Nat.beq n m && Nat.beq c e
    | .slice (some a) n c, .slice (some b) m e => eqA a b && Nat.beq n m && Nat.beq c e
    | .map none, .map none => true
    | .map (some a), .map (some b) => Nat.beq a b
    | .nilFunc, .nilFunc => true
    | .nilIface, .nilIface => true
    | .iface t v, .iface s u => Nat.beq t s && eqV d v u
    | .agg xs, .agg ys => eqL (eqV d) xs.toList ys.toList
    | .tuple xs, .tuple ys => eqL (eqV d) xs.toList ys.toList
    | .func f xs us, .func g ys vs => decide (f = g) && eqL (eqV d) xs.toList ys.toList && eqL (eqV d) us.toList vs.toList
    | _, _ => false
def eqOpt {α : Type} (f : α → α → Bool) : Option α → Option α → Bool
  | none, none => true
  | some x, some y => f x y
  | _, _ => false
noncomputable def eqT {α : Type} (f : α → α → Bool) (t : T α) : T α → Bool :=
  T.rec (motive := fun _ => T α → Bool) (fun u => match u with | .leaf => true | _ => false)
    (fun v _ _ el er => fun u => match u with
      | .leaf => false
      | .node v' l' r' => eqOpt f v v' && el l' && er r') t
noncomputable def eqB (a b : Blk) : Bool := Nat.beq a.n b.n && Nat.beq a.elem b.elem && Nat.beq a.sz b.sz && (a.exact == b.exact) && Nat.beq a.frz b.frz && eqT (eqV 4) a.cells b.cells
noncomputable def eqO (a b : Option Blk) : Bool := match a, b with | none, none => true | some x, some y => eqB x y | _, _ => false
theorem eqA_ok {a b : Addr} (h : eqA a b = true) : a = b := by
  obtain ⟨x, y, z⟩ := a
  obtain ⟨x', y', z'⟩ := b
  simp only [eqA, Bool.and_eq_true] at h
  obtain ⟨⟨⟨h1, h2⟩, h3⟩, h4⟩ := h
  cases z <;> cases z' <;> simp at h3 h4
  rw [Nat.eq_of_beq_eq_true h1, Nat.eq_of_beq_eq_true h2]
theorem eqL_ok {α : Type} {f : α → α → Bool} (hf : ∀ x y, f x y = true → x = y) : ∀ (l u : List α), eqL f l u = true → l = u := by
  intro l
  induction l with
  | nil => intro u h; cases u with
    | nil => rfl
    | cons y ys => cases h
  | cons x xs ih => intro u h; cases u with
    | nil => cases h
    | cons y ys =>
      simp only [eqL, Bool.and_eq_true] at h
      rw [hf x y h.1, ih ys h.2]
theorem eqV_ok : ∀ (d : Nat) (x y : Value), eqV d x y = true → x = y := by
  intro d
  induction d with
  | zero => intro x y h; cases h
  | succ d ih =>
    have hL : ∀ xs ys : Array Value, eqL (eqV d) xs.toList ys.toList = true → xs = ys := fun xs ys h => Array.ext' (eqL_ok ih _ _ h)
    intro x y h
    unfold eqV at h
    split at h
    · simp only [beq_iff_eq] at h; rw [h]
    · simp only [Bool.and_eq_true, decide_eq_true_eq] at h; rw [h.1, h.2]
    · simp only [decide_eq_true_eq] at h; rw [h]
    · rfl
    · rw [eqA_ok h]
    · simp only [Bool.and_eq_true] at h; rw [Nat.eq_of_beq_eq_true h.1, Nat.eq_of_beq_eq_true h.2]
    · simp only [Bool.and_eq_true] at h; rw [eqA_ok h.1.1, Nat.eq_of_beq_eq_true h.1.2, Nat.eq_of_beq_eq_true h.2]
    · rfl
    · rw [Nat.eq_of_beq_eq_true h]
    · rfl
    · rfl
    · simp only [Bool.and_eq_true] at h; rw [Nat.eq_of_beq_eq_true h.1, ih _ _ h.2]
    · rw [hL _ _ h]
    · rw [hL _ _ h]
    · simp only [Bool.and_eq_true, decide_eq_true_eq] at h; rw [h.1.1, hL _ _ h.1.2, hL _ _ h.2]
    · cases h
theorem eqT_ok {α : Type} {f : α → α → Bool} (hf : ∀ x y, f x y = true → x = y) : ∀ (t u : T α), eqT f t u = true → t = u := by
  intro t
  induction t with
  | leaf => intro u h; cases u with
    | leaf => rfl
    | node v l r => cases h
  | node v l r ihl ihr =>
    intro u h
    cases u with
    | leaf => cases h
    | node v' l' r' =>
      have h' : (eqOpt f v v' && eqT f l l' && eqT f r r') = true := h
      simp only [Bool.and_eq_true] at h'
      rw [ihl _ h'.1.2, ihr _ h'.2]
      cases v <;> cases v' <;> simp [eqOpt] at h'
      · rfl
      · rw [hf _ _ h'.1.1]
theorem eqB_ok {a b : Blk} (h : eqB a b = true) : a = b := by
  obtain ⟨a1, a2, a3, a4, a5, a6⟩ := a
  obtain ⟨b1, b2, b3, b4, b5, b6⟩ := b
  simp only [eqB, Bool.and_eq_true, beq_iff_eq] at h
  obtain ⟨⟨⟨⟨⟨h1, h2⟩, h3⟩, h4⟩, h5⟩, h6⟩ := h
  rw [Nat.eq_of_beq_eq_true h1, Nat.eq_of_beq_eq_true h2, Nat.eq_of_beq_eq_true h3, h4, Nat.eq_of_beq_eq_true h5, eqT_ok (eqV_ok 4) _ _ h6]
theorem eqO_ok {a b : Option Blk} (h : eqO a b = true) : a = b := by
  cases a <;> cases b <;> first | rfl | (cases h; done) | (rw [eqB_ok h])
/-! the plan -/
/-- are two pointers held against each other? -/
def ptrOps (P : Program) (t : TypeId) (x y : Operand) : Bool := match P.underlying t, x, y with
  | some (.pointer _), .const _, _ => false
  | some (.pointer _), _, .const _ => false
  | some (.pointer _), _, _ => true
  | _, _, _ => false
/-- operations that may change the world, but for those that make one block -/
def isEff (P : Program) (o : Oper) : Bool := match o.op with
  | .store _ _ _ => true
  | .makeSlice _ _ _ => true
  | .defer _ => true
  | .makeMap _ _ => true
  | .lookup _ _ _ _ => true
  | .mapUpdate _ _ _ _ => true
  | .insert _ _ _ _ => true
  | .mapEntry _ _ _ => true
  | .entryStore _ _ _ _ => true
  | .range _ _ => true
  | .next _ _ => true
  | .entry _ => true
  | .call c => (match c.callee with
    | .builtin .append => true
    | .builtin .copy => true
    | .builtin .clear => true
    | .builtin .delete => true
    | .builtin .unsafeString => true
    | .builtin .len => (match (c.argTypes[0]?).bind P.underlying with | some (.map _ _) => true | _ => false)
    | .builtin _ => false
    | _ => true)
  | .convert src dst _ => (match P.underlying src, P.underlying dst with
    | some _, some (.slice _) => true
    | some (.slice _), some .string => true
    | some (.pointer _), some .unsafePointer => true
    | some .unsafePointer, some (.pointer _) => true
    | _, _ => false)
  | .binOp .eql t x y _ => ptrOps P t x y
  | .binOp .neq t x y _ => ptrOps P t x y
  | _ => false
def isLoad (o : Oper) : Bool := match o.op with
  | .load _ _ => true
  | _ => false
def afterB (o : Oper) : List Nat := (o.after.toList.filter (Region.binds .any)).map (·.on)
def memN (l : List Nat) (i : Nat) : Bool := l.any (Nat.beq i)
theorem memN_iff {l : List Nat} {i : Nat} : memN l i = true ↔ i ∈ l := by
  unfold memN
  rw [List.any_eq_true]
  constructor
  · rintro ⟨x, hx, e⟩; rw [Nat.eq_of_beq_eq_true e]; exact hx
  · exact fun h => ⟨i, h, Nat.beq_refl i⟩
/-- what the run has done and the world perhaps not: a load's value, the block that is made -/
structure Pn where
  i : Nat
  o : Oper
  v : Value
  id : Option Nat
noncomputable def loadOk (P : Program) (st : St) (tm : T Value) (y : Pn) : Bool := match y.id with
  | some _ => true
  | none => (match aop P y.o st tm with
    | .val v _ => eqV 4 v y.v
    | _ => false)
noncomputable def blkOk (st0 s1 : St) (y : Pn) : Bool := match y.id with
  | none => true
  | some id => Nat.blt id s1.minw || eqO (s1.heap.get id) (st0.heap.get id)
noncomputable def newOk (st : St) (id : Nat) : Bool := match st.heap.get id with
  | some b => Nat.blt 0 b.n && Nat.beq b.frz 0
  | none => false
/-- does it write what another operation looks at before, or writes before? -/
def wrAfter (ops : Array Oper) (j : Nat) (oj : Oper) : Bool := match oj.dst with
  | none => false
  | some d => (List.range ops.size).any fun i => !Nat.beq i j && (match ops[i]? with
    | some oi => (memN (oi.looksAt ops) d && !memN (afterB oi) j) || (match oi.dst with | some e => Nat.beq e d && memN (afterB oj) i | none => false)
    | none => false)
/-! sets of numbers as numbers -/
noncomputable def maskN (l : List Nat) : Nat := List.rec (motive := fun _ => Nat) 0 (fun a _ m => Nat.lor (Nat.shiftLeft 1 a) m) l
theorem testBit_one (a k : Nat) : (Nat.shiftLeft 1 a).testBit k = true ↔ k = a := by
  show (1 <<< a).testBit k = true ↔ k = a
  rw [Nat.one_shiftLeft, Nat.testBit_two_pow, decide_eq_true_eq]
  exact ⟨fun h => h.symm, fun h => h.symm⟩
theorem testBit_maskN : ∀ (l : List Nat) (k : Nat), (maskN l).testBit k = true ↔ k ∈ l
  | [], k => by
    show (0 : Nat).testBit k = true ↔ _
    simp
  | a :: l, k => by
    show (Nat.shiftLeft 1 a ||| maskN l).testBit k = true ↔ _
    rw [Nat.testBit_or, Bool.or_eq_true, testBit_one, testBit_maskN l k, List.mem_cons]
theorem disj_of {a b k : Nat} (h : Nat.beq (Nat.land a b) 0 = true) (ha : a.testBit k = true) : b.testBit k = false := by
  have h0 : a &&& b = 0 := Nat.eq_of_beq_eq_true h
  have := congrArg (fun n => n.testBit k) h0
  simp only [Nat.testBit_and, ha, Bool.true_and, Nat.zero_testBit] at this
  exact this
/-- the targets are apart -/
noncomputable def distM (l : List Oper) : Nat → Bool :=
  List.rec (motive := fun _ => Nat → Bool) (fun _ => true) (fun o _ ih m => Option.rec (motive := fun _ => Bool) (ih m) (fun d => Bool.rec (motive := fun _ => Bool) false (ih (Nat.lor (Nat.shiftLeft 1 d) m)) (Nat.beq (Nat.land (Nat.shiftLeft 1 d) m) 0)) o.dst) l
theorem distM_ok : ∀ (l : List Oper) (m : Nat), distM l m = true →
    (∀ (i : Nat) (o : Oper) (d : Nat), l[i]? = some o → o.dst = some d → m.testBit d = false) ∧ ∀ (i j : Nat) (oi oj : Oper) (d : Nat), l[i]? = some oi → l[j]? = some oj → oi.dst = some d → oj.dst = some d → i = j
  | [], m, _ => ⟨fun i o d h => (by simp at h), fun i j oi oj d h => (by simp at h)⟩
  | o :: l, m, h => by
    have h' : (Option.rec (motive := fun _ => Bool) (distM l m) (fun d => Bool.rec (motive := fun _ => Bool) false (distM l (Nat.lor (Nat.shiftLeft 1 d) m)) (Nat.beq (Nat.land (Nat.shiftLeft 1 d) m) 0)) o.dst : Bool) = true := h
    cases hd : o.dst with
    | none =>
      rw [hd] at h'
      obtain ⟨a1, a2⟩ := distM_ok l m h'
      refine ⟨fun i o' d hi hd' => ?_, fun i j oi oj d hi hj hdi hdj => ?_⟩
      · cases i with
        | zero => simp at hi; subst hi; rw [hd] at hd'; cases hd'
        | succ i => exact a1 i o' d (by simpa using hi) hd'
      · cases i with
        | zero => simp at hi; subst hi; rw [hd] at hdi; cases hdi
        | succ i => cases j with
          | zero => simp at hj; subst hj; rw [hd] at hdj; cases hdj
          | succ j => rw [a2 i j oi oj d (by simpa using hi) (by simpa using hj) hdi hdj]
    | some e =>
      rw [hd] at h'
      have h2 : (Bool.rec (motive := fun _ => Bool) false (distM l (Nat.lor (Nat.shiftLeft 1 e) m)) (Nat.beq (Nat.land (Nat.shiftLeft 1 e) m) 0) : Bool) = true := h'
      cases hb : Nat.beq (Nat.land (Nat.shiftLeft 1 e) m) 0 with
      | false => rw [hb] at h2; cases h2
      | true =>
        rw [hb] at h2
        obtain ⟨a1, a2⟩ := distM_ok l _ h2
        have lor_bit : ∀ d, (Nat.lor (Nat.shiftLeft 1 e) m).testBit d = false → d ≠ e ∧ m.testBit d = false := fun d q => by
          have q' : (Nat.shiftLeft 1 e ||| m).testBit d = false := q
          rw [Nat.testBit_or, Bool.or_eq_false_iff] at q'
          exact ⟨fun r => (by have := (testBit_one e d).2 r; rw [q'.1] at this; cases this), q'.2⟩
        refine ⟨fun i o' d hi hd' => ?_, fun i j oi oj d hi hj hdi hdj => ?_⟩
        · cases i with
          | zero =>
            simp at hi; subst hi; rw [hd] at hd'; cases hd'
            exact disj_of hb ((testBit_one _ _).2 rfl)
          | succ i => exact (lor_bit d (a1 i o' d (by simpa using hi) hd')).2
        · cases i with
          | zero => cases j with
            | zero => rfl
            | succ j =>
              simp at hi; subst hi; rw [hd] at hdi; cases hdi
              exact absurd rfl (lor_bit _ (a1 j oj _ (by simpa using hj) hdj)).1
          | succ i => cases j with
            | zero =>
              simp at hj; subst hj; rw [hd] at hdj; cases hdj
              exact absurd rfl (lor_bit _ (a1 i oi _ (by simpa using hi) hdi)).1
            | succ j => rw [a2 i j oi oj d (by simpa using hi) (by simpa using hj) hdi hdj]
noncomputable def dstsL (l : List Oper) : List Nat := l.filterMap (·.dst)
/-- what an operation looks at and another writes, that comes before it -/
noncomputable def lookM (ops : Array Oper) (all : Nat) (o : Oper) : Bool :=
  Nat.beq (Nat.land (Nat.land (maskN (o.looksAt ops)) all) (maskN ((afterB o).filterMap fun k => (ops[k]?).bind (·.dst)))) (Nat.land (maskN (o.looksAt ops)) all) &&
  Option.rec (motive := fun _ => Bool) true (fun d => Nat.beq (Nat.land (Nat.shiftLeft 1 d) (maskN (o.looksAt ops))) 0) o.dst
noncomputable def allM (f : Oper → Bool) (l : List Oper) : Bool := List.rec (motive := fun _ => Bool) true (fun o _ ih => Bool.rec (motive := fun _ => Bool) false ih (f o)) l
theorem allM_ok {f : Oper → Bool} : ∀ {l : List Oper}, allM f l = true → ∀ o ∈ l, f o = true
  | [], _, o, h => (by cases h)
  | a :: l, h, o, ho => by
    have h' : (Bool.rec (motive := fun _ => Bool) false (allM f l) (f a) : Bool) = true := h
    cases hb : f a with
    | false => rw [hb] at h'; cases h'
    | true =>
      rw [hb] at h'
      rcases List.mem_cons.1 ho with rfl | ho
      · exact hb
      · exact allM_ok h' o ho
noncomputable def plainB (ops : Array Oper) : Bool := Bool.rec (motive := fun _ => Bool) false (allM (lookM ops (maskN (dstsL ops.toList))) ops.toList) (distM ops.toList 0)
theorem plainB_ok {ops : Array Oper} (h : plainB ops = true) {i j : Nat} {oi oj : Oper} {d : Nat} (hi : ops[i]? = some oi) (hj : ops[j]? = some oj) (hd : oj.dst = some d) :
    (i = j → d ∉ oi.looksAt ops) ∧ (oi.dst = some d → i = j) ∧ (d ∈ oi.looksAt ops → j ∈ afterB oi) := by
  have h' : (Bool.rec (motive := fun _ => Bool) false (allM (lookM ops (maskN (dstsL ops.toList))) ops.toList) (distM ops.toList 0) : Bool) = true := h
  cases hb : distM ops.toList 0 with
  | false => rw [hb] at h'; cases h'
  | true =>
    rw [hb] at h'
    obtain ⟨_, a2⟩ := distM_ok _ _ hb
    have tl : ∀ {k o}, ops[k]? = some o → ops.toList[k]? = some o := fun q => by rw [Array.getElem?_toList]; exact q
    have hm : lookM ops (maskN (dstsL ops.toList)) oi = true := allM_ok h' oi (List.mem_of_getElem? (tl hi))
    unfold lookM at hm
    rw [Bool.and_eq_true] at hm
    refine ⟨fun hij hm' => ?_, fun hdi => a2 i j oi oj d (tl hi) (tl hj) hdi hd, fun hl => ?_⟩
    · subst hij
      rw [hi] at hj; cases hj
      have := hm.2
      rw [hd] at this
      have q := disj_of this ((testBit_one d d).2 rfl)
      rw [(testBit_maskN _ d).2 hm'] at q; cases q
    · have e : (maskN (oi.looksAt ops) &&& maskN (dstsL ops.toList)) &&& maskN ((afterB oi).filterMap fun k => (ops[k]?).bind (·.dst)) = maskN (oi.looksAt ops) &&& maskN (dstsL ops.toList) := Nat.eq_of_beq_eq_true hm.1
      have hall : (maskN (dstsL ops.toList)).testBit d = true := (testBit_maskN _ d).2 (List.mem_filterMap.2 ⟨oj, List.mem_of_getElem? (tl hj), hd⟩)
      have hlk : (maskN (oi.looksAt ops)).testBit d = true := (testBit_maskN _ d).2 hl
      have := congrArg (fun n => n.testBit d) e
      simp only [Nat.testBit_and, hall, hlk, Bool.true_and] at this
      obtain ⟨k, hk, hkd⟩ := List.mem_filterMap.1 ((testBit_maskN _ d).1 this)
      cases hok : ops[k]? with
      | none => rw [hok] at hkd; cases hkd
      | some ok =>
        rw [hok] at hkd
        rw [← a2 k j ok oj d (tl hok) (tl hj) hkd hd]
        exact hk
/-- operations that the run does when the world does them -/
noncomputable def isEffR (P : Program) (ops : Array Oper) (j : Nat) (o : Oper) : Bool := isEff P o || (bif plainB ops then false else wrAfter ops j o)
noncomputable def planStep (P : Program) (ex : ExT) (ro : Option Nat) (ops : Array Oper) (N : Nat) (i : Nat) (ih : List Pn → St → T Value → Rs (St × T Value)) (pend : List Pn) (st : St) (tm : T Value) : Rs (St × T Value) :=
  match ops[i]? with
  | none => .err none 20
  | some o =>
    bif isEffR P ops i o then
      match opsRun P ex ro ops N [o] { st with minw := st.next } tm with
      | .ok (s1, t1) =>
        bif (pend.filter fun y => !memN (afterB o) y.i).all fun y => loadOk P { s1 with minw := Nat.min st.minw s1.minw } t1 y && blkOk st s1 y then
          ih (pend.filter fun y => !memN (afterB o) y.i) { s1 with minw := Nat.min st.minw s1.minw } t1
        else .err (some o) 23
      | .err a b => .err a b
    else
      match wantedA ops o tm with
      | none => .err (some o) 21
      | some false => (match putD tm o.dst undef N with | some tm' => ih pend st tm' | none => .err (some o) 22)
      | some true =>
        match aopP P o tm with
        | some v => (match putD tm o.dst v N with | some tm' => ih pend st tm' | none => .err (some o) 24)
        | none =>
          match aop P o st tm with
          | .val v st' =>
            (match putD tm o.dst v N with
            | some tm' =>
              bif isLoad o then ih (⟨i, o, v, none⟩ :: pend) st tm'
              else bif isMake o && opsLt st.next tm o && Nat.ble 204 st.next && newOk st' st.next && pend.all (loadOk P st' tm') then ih (⟨i, o, v, some st.next⟩ :: pend) st' tm'
              else .err (some o) 25
            | none => .err (some o) 26)
          | _ => .err (some o) 27
/-- the same, by recursors with closed arms -/
noncomputable def planVal (P : Program) (o : Oper) (i : Nat) (N : Nat) (ih : List Pn → St → T Value → Rs (St × T Value)) (pend : List Pn) (st : St) (tm : T Value) (v : Value) (st' : St) : Rs (St × T Value) :=
  Option.rec (motive := fun _ => Rs (St × T Value)) (.err (some o) 26)
    (fun tm' => Bool.rec (motive := fun _ => Rs (St × T Value))
      (Bool.rec (motive := fun _ => Rs (St × T Value)) (.err (some o) 25) (ih (⟨i, o, v, some st.next⟩ :: pend) st' tm') (isMake o && opsLt st.next tm o && Nat.ble 204 st.next && newOk st' st.next && pend.all (loadOk P st' tm')))
      (ih (⟨i, o, v, none⟩ :: pend) st tm') (isLoad o)) (putDF o.dst tm v N)
noncomputable def planAR (P : Program) (o : Oper) (i : Nat) (N : Nat) (ih : List Pn → St → T Value → Rs (St × T Value)) (pend : List Pn) (st : St) (tm : T Value) (r : AR) : Rs (St × T Value) :=
  AR.rec (motive := fun _ => (Value → St → Rs (St × T Value)) → Rs (St × T Value) → Rs (St × T Value))
    (fun v st' k _ => k v st') (fun _ _ e => e) (fun _ _ _ e => e) (fun _ _ e => e) (fun _ _ _ e => e) (fun _ e => e) r
    (planVal P o i N ih pend st tm) (.err (some o) 27)
noncomputable def planW (P : Program) (o : Oper) (i : Nat) (N : Nat) (ih : List Pn → St → T Value → Rs (St × T Value)) (pend : List Pn) (st : St) (tm : T Value) (b : Bool) : Rs (St × T Value) :=
  Bool.rec (motive := fun _ => Rs (St × T Value))
    (Option.rec (motive := fun _ => Rs (St × T Value)) (.err (some o) 22) (fun tm' => ih pend st tm') (putDF o.dst tm undef N))
    (Option.rec (motive := fun _ => Rs (St × T Value)) (planAR P o i N ih pend st tm (aopF o.op P o st tm))
      (fun v => Option.rec (motive := fun _ => Rs (St × T Value)) (.err (some o) 24) (fun tm' => ih pend st tm') (putDF o.dst tm v N)) (aopPF o.op P o tm)) b
noncomputable def planO (P : Program) (ex : ExT) (ro : Option Nat) (ops : Array Oper) (N : Nat) (i : Nat) (ih : List Pn → St → T Value → Rs (St × T Value)) (pend : List Pn) (st : St) (tm : T Value) (o : Oper) : Rs (St × T Value) :=
  Bool.rec (motive := fun _ => Rs (St × T Value))
    (Option.rec (motive := fun _ => Rs (St × T Value)) (.err (some o) 21) (fun b => planW P o i N ih pend st tm b) (wantedF ops o tm))
    (planStep P ex ro ops N i ih pend st tm) (isEffR P ops i o)
noncomputable def planStepF (P : Program) (ex : ExT) (ro : Option Nat) (ops : Array Oper) (N : Nat) (i : Nat) (ih : List Pn → St → T Value → Rs (St × T Value)) (pend : List Pn) (st : St) (tm : T Value) : Rs (St × T Value) :=
  Option.rec (motive := fun _ => Rs (St × T Value)) (.err none 20) (fun o => planO P ex ro ops N i ih pend st tm o) (ops[i]?)
theorem planStepF_eq (P : Program) (ex : ExT) (ro : Option Nat) (ops : Array Oper) (N : Nat) (i : Nat) (ih : List Pn → St → T Value → Rs (St × T Value)) (pend : List Pn) (st : St) (tm : T Value) : planStepF P ex ro ops N i ih pend st tm = planStep P ex ro ops N i ih pend st tm := by
  unfold planStepF
  cases ho : ops[i]? with
  | none => unfold planStep; rw [ho]
  | some o =>
    show planO P ex ro ops N i ih pend st tm o = _
    unfold planO
    cases he : isEffR P ops i o with
    | true => rfl
    | false =>
      show Option.rec (motive := fun _ => Rs (St × T Value)) (.err (some o) 21) (fun b => planW P o i N ih pend st tm b) (wantedF ops o tm) = _
      rw [wantedF_eq]
      unfold planStep
      rw [ho]
      simp only
      rw [he]
      simp only [cond_false]
      cases hw : wantedA ops o tm with
      | none => rfl
      | some b =>
        show planW P o i N ih pend st tm b = _
        unfold planW
        cases b with
        | false =>
          simp only
          rw [putDF_eq]
          cases putD tm o.dst undef N <;> rfl
        | true =>
          simp only
          rw [aopPF_eq, aopF_eq]
          cases hp : aopP P o tm with
          | some v =>
            simp only
            rw [putDF_eq]
            cases putD tm o.dst v N <;> rfl
          | none =>
            simp only
            cases ha : aop P o st tm with
            | val v st' =>
              show planVal P o i N ih pend st tm v st' = _
              unfold planVal
              simp only
              rw [putDF_eq]
              cases putD tm o.dst v N with
              | none => rfl
              | some tm' =>
                simp only
                cases isLoad o with
                | true => rfl
                | false =>
                  simp only [cond_false]
                  cases (isMake o && opsLt st.next tm o && Nat.ble 204 st.next && newOk st' st.next && pend.all (loadOk P st' tm')) <;> rfl
            | skip _ => rfl
            | call _ _ => rfl
            | defer _ => rfl
            | round _ _ => rfl
            | fail => rfl
noncomputable def planRun (P : Program) (ex : ExT) (ro : Option Nat) (ops : Array Oper) (N : Nat) (l : List Nat) : List Pn → St → T Value → Rs (St × T Value) :=
  List.rec (motive := fun _ => List Pn → St → T Value → Rs (St × T Value)) (fun _ st tm => .ok (st, tm)) (fun i _ ih => planStepF P ex ro ops N i ih) l

/-! what is asked of a plan, whatever the data -/
noncomputable def pairB (P : Program) (ops : Array Oper) (i j : Nat) : Bool := match ops[i]?, ops[j]? with
  | some oi, some oj => (match oj.dst with
    | none => true
    | some d => bif Nat.beq i j then !memN (oi.looksAt ops) d
      else ((oi.dst != some d) || (memN (afterB oj) i && isEffR P ops j oj) || (memN (afterB oi) j && isEffR P ops i oi)) &&
        (!memN (oi.looksAt ops) d || memN (afterB oi) j || (memN (afterB oj) i && isEffR P ops j oj)))
  | _, _ => true
noncomputable def restB (P : Program) (ops : Array Oper) : List Nat → Bool
  | [] => true
  | i :: l => (match ops[i]? with
    | some o => okOp o && (afterB o).all (fun k => !memN (i :: l) k && Nat.blt k ops.size) && !memN l i &&
        (!isEffR P ops i o || l.all fun j => match ops[j]? with | some oj => (afterB oj).any (memN (i :: l)) | none => false)
    | none => false) && restB P ops l
noncomputable def aftM (ops : Array Oper) (j : Nat) : Nat := Option.rec (motive := fun _ => Nat) 0 (fun o => maskN (afterB o)) (ops[j]?)
noncomputable def restM (P : Program) (ops : Array Oper) (l : List Nat) : Bool :=
  List.rec (motive := fun _ => Bool) true (fun i l ih => Option.rec (motive := fun _ => Bool) false (fun o =>
    okOp o && (Nat.beq (Nat.land (aftM ops i) (Nat.lor (Nat.shiftLeft 1 i) (maskN l))) 0 && (Nat.blt (aftM ops i) (Nat.pow 2 ops.size) && (Nat.beq (Nat.land (Nat.shiftLeft 1 i) (maskN l)) 0 &&
      (Bool.rec (motive := fun _ => Bool) true (List.rec (motive := fun _ => Bool) true (fun j _ ih => !Nat.beq (Nat.land (aftM ops j) (Nat.lor (Nat.shiftLeft 1 i) (maskN l))) 0 && ih) l) (isEffR P ops i o) && ih))))) (ops[i]?)) l
noncomputable def planB (P : Program) (ops : Array Oper) (l : List Nat) : Bool :=
  bif plainB ops then restM P ops l && (List.range ops.size).all fun i => memN l i
  else restB P ops l && (List.range ops.size).all fun i => memN l i && (List.range ops.size).all fun j => pairB P ops i j
/-- the operations in an order in which all that can come early comes early -/
noncomputable def isEffAt (P : Program) (ops : Array Oper) (i : Nat) : Bool := match ops[i]? with | some o => isEffR P ops i o | none => true
noncomputable def planL (P : Program) (ops : Array Oper) : Nat → List Nat → List Nat → List Nat
  | 0, _, acc => acc.reverse
  | f + 1, left, acc =>
    match left.filter (fun i => match ops[i]? with | some o => (afterB o).all fun k => !memN left k | none => false) with
    | [] => acc.reverse
    | i :: rs => match (i :: rs).find? (fun j => !isEffAt P ops j) with
      | some j => planL P ops f (left.filter fun k => !Nat.beq k j) (j :: acc)
      | none => planL P ops f (left.filter fun k => !Nat.beq k i) (i :: acc)
noncomputable def findM (f : Nat → Bool) (l : List Nat) : Option Nat := List.rec (motive := fun _ => Option Nat) none (fun i _ ih => Bool.rec (motive := fun _ => Option Nat) ih (some i) (f i)) l
noncomputable def dropM (i : Nat) (l : List Nat) : List Nat := List.rec (motive := fun _ => List Nat) [] (fun j l ih => Bool.rec (motive := fun _ => List Nat) (j :: ih) l (Nat.beq i j)) l
noncomputable def readyM (ops : Array Oper) (m i : Nat) : Bool := Nat.beq (Nat.land (aftM ops i) m) 0
noncomputable def pickM (P : Program) (ops : Array Oper) (m : Nat) (left : List Nat) : Option Nat :=
  Option.rec (motive := fun _ => Option Nat) (findM (readyM ops m) left) (fun i => some i) (findM (fun i => Bool.rec (motive := fun _ => Bool) false (!isEffAt P ops i) (readyM ops m i)) left)
noncomputable def planLM (P : Program) (ops : Array Oper) (f : Nat) : Nat → List Nat → List Nat :=
  Nat.rec (motive := fun _ => Nat → List Nat → List Nat) (fun _ _ => []) (fun _ ih m left => Option.rec (motive := fun _ => List Nat) [] (fun i => i :: ih (Nat.sub m (Nat.shiftLeft 1 i)) (dropM i left)) (pickM P ops m left)) f
noncomputable def planOf (P : Program) (ops : Array Oper) : List Nat := bif plainB ops then planLM P ops ops.size (Nat.sub (Nat.pow 2 ops.size) 1) (List.range ops.size) else planL P ops ops.size (List.range ops.size) []
noncomputable def regPlan (P : Program) (ex : ExT) (ro : Option Nat) (ops : Array Oper) (N : Nat) (st : St) (tm : T Value) : Rs (St × T Value) :=
  bif planB P ops (planOf P ops) && Nat.ble (planOf P ops).length ops.size then planRun P ex ro ops N (planOf P ops) [] st tm else .err (ops[0]?) 30

theorem mem_afterB {o : Oper} {k : Nat} : k ∈ afterB o ↔ ∃ e ∈ o.after, Region.binds .any e = true ∧ e.on = k := by
  unfold afterB
  rw [List.mem_map]
  constructor
  · rintro ⟨e, he, rfl⟩
    obtain ⟨h1, h2⟩ := List.mem_filter.1 he
    exact ⟨e, by simpa using h1, h2, rfl⟩
  · rintro ⟨e, h1, h2, rfl⟩
    exact ⟨e, List.mem_filter.2 ⟨by simpa using h1, h2⟩, rfl⟩
def Pairs (P : Program) (ops : Array Oper) : Prop := ∀ i j oi oj d, ops[i]? = some oi → ops[j]? = some oj → oj.dst = some d → (i = j → d ∉ oi.looksAt ops) ∧
  (i ≠ j → (oi.dst ≠ some d ∨ (i ∈ afterB oj ∧ isEffR P ops j oj = true) ∨ (j ∈ afterB oi ∧ isEffR P ops i oi = true)) ∧ (d ∈ oi.looksAt ops → j ∈ afterB oi ∨ (i ∈ afterB oj ∧ isEffR P ops j oj = true)))
def RestOK (P : Program) (ops : Array Oper) : List Nat → Prop
  | [] => True
  | i :: l => (∃ o, ops[i]? = some o ∧ okOp o = true ∧ (∀ k ∈ afterB o, k ∉ i :: l ∧ k < ops.size) ∧ i ∉ l ∧ (isEffR P ops i o = true → ∀ j ∈ l, ∃ oj, ops[j]? = some oj ∧ ∃ k ∈ afterB oj, k ∈ i :: l)) ∧ RestOK P ops l
theorem restOK_of {P : Program} {ops : Array Oper} : ∀ {l : List Nat}, restB P ops l = true → RestOK P ops l := by
  intro l
  induction l with
  | nil => exact fun _ => trivial
  | cons i l ih =>
    intro h
    unfold restB at h
    rw [Bool.and_eq_true] at h
    refine ⟨?_, ih h.2⟩
    have h1 := h.1
    cases ho : ops[i]? with
    | none => rw [ho] at h1; cases h1
    | some o =>
      rw [ho] at h1
      simp only [Bool.and_eq_true, Bool.not_eq_true', Bool.or_eq_true] at h1
      obtain ⟨⟨⟨q1, q2⟩, q3⟩, q4⟩ := h1
      refine ⟨o, rfl, q1, fun k hk => ?_, fun hi => ?_, fun he j hj => ?_⟩
      · have := List.all_eq_true.1 q2 k hk
        simp only [Bool.and_eq_true, Bool.not_eq_true'] at this
        refine ⟨fun hm => ?_, blt_lt this.2⟩
        rw [memN_iff.2 hm] at this; cases this.1
      · rw [memN_iff.2 hi] at q3; cases q3
      · rcases q4 with q4 | q4
        · rw [he] at q4; cases q4
        · have := List.all_eq_true.1 q4 j hj
          cases hoj : ops[j]? with
          | none => rw [hoj] at this; cases this
          | some oj =>
            rw [hoj] at this
            obtain ⟨k, hk, hm⟩ := List.any_eq_true.1 this
            exact ⟨oj, rfl, k, hk, memN_iff.1 hm⟩
theorem aftM_of {ops : Array Oper} {j : Nat} {o : Oper} (h : ops[j]? = some o) : aftM ops j = maskN (afterB o) := by
  unfold aftM; rw [h]
theorem restOK_ofM {P : Program} {ops : Array Oper} : ∀ {l : List Nat}, restM P ops l = true → RestOK P ops l
  | [], _ => trivial
  | i :: l, h => by
    have h' : (Option.rec (motive := fun _ => Bool) false (fun o =>
      okOp o && (Nat.beq (Nat.land (aftM ops i) (Nat.lor (Nat.shiftLeft 1 i) (maskN l))) 0 && (Nat.blt (aftM ops i) (Nat.pow 2 ops.size) && (Nat.beq (Nat.land (Nat.shiftLeft 1 i) (maskN l)) 0 &&
      (Bool.rec (motive := fun _ => Bool) true (List.rec (motive := fun _ => Bool) true (fun j _ ih => !Nat.beq (Nat.land (aftM ops j) (Nat.lor (Nat.shiftLeft 1 i) (maskN l))) 0 && ih) l) (isEffR P ops i o) && restM P ops l))))) (ops[i]?) : Bool) = true := h
    cases ho : ops[i]? with
    | none => rw [ho] at h'; cases h'
    | some o =>
      rw [ho] at h'
      simp only [Bool.and_eq_true] at h'
      obtain ⟨q1, q2, q3, q4, q5, q6⟩ := h'
      rw [aftM_of ho] at q2 q3
      have hM : ∀ k, k ∈ i :: l → (Nat.lor (Nat.shiftLeft 1 i) (maskN l)).testBit k = true := fun k hk => (testBit_maskN (i :: l) k).2 hk
      refine ⟨⟨o, ho, q1, fun k hk => ⟨fun hm => ?_, ?_⟩, fun hi => ?_, fun he j hj => ?_⟩, restOK_ofM q6⟩
      · have := disj_of q2 ((testBit_maskN _ k).2 hk)
        rw [hM k hm] at this; cases this
      · have hlt : maskN (afterB o) < 2 ^ ops.size := blt_lt q3
        have hk2 := Nat.ge_two_pow_of_testBit ((testBit_maskN _ k).2 hk)
        exact (Nat.pow_lt_pow_iff_right (by omega)).1 (Nat.lt_of_le_of_lt hk2 hlt)
      · have := disj_of q4 ((testBit_one i i).2 rfl)
        rw [(testBit_maskN _ _).2 hi] at this; cases this
      · rw [he] at q5
        have key : ∀ l' : List Nat, (List.rec (motive := fun _ => Bool) true (fun j _ ih => !Nat.beq (Nat.land (aftM ops j) (Nat.lor (Nat.shiftLeft 1 i) (maskN l))) 0 && ih) l' : Bool) = true → ∀ j ∈ l', Nat.beq (Nat.land (aftM ops j) (Nat.lor (Nat.shiftLeft 1 i) (maskN l))) 0 = false := by
          intro l'
          induction l' with
          | nil => intro _ j hj; cases hj
          | cons a l' ih =>
            intro h j hj
            simp only [Bool.and_eq_true, Bool.not_eq_true'] at h
            rcases List.mem_cons.1 hj with rfl | hj
            · exact h.1
            · exact ih h.2 j hj
        have hne := key l q5 j hj
        have hne' : aftM ops j &&& maskN (i :: l) ≠ 0 := Nat.ne_of_beq_eq_false hne
        obtain ⟨k, hk⟩ := Nat.exists_testBit_of_ne_zero hne'
        rw [Nat.testBit_and, Bool.and_eq_true] at hk
        cases hoj : ops[j]? with
        | none => unfold aftM at hk; rw [hoj] at hk; simp at hk
        | some oj =>
          rw [aftM_of hoj] at hk
          exact ⟨oj, rfl, k, (testBit_maskN _ k).1 hk.1, (testBit_maskN _ k).1 hk.2⟩
theorem pairs_of {P : Program} {ops : Array Oper} {l : List Nat} (h : planB P ops l = true) : Pairs P ops ∧ RestOK P ops l ∧ ∀ i, i < ops.size → i ∈ l := by
  unfold planB at h
  cases hpl : plainB ops with
  | true =>
    rw [hpl] at h
    simp only [cond_true] at h
    rw [Bool.and_eq_true] at h
    refine ⟨fun i j oi oj d hi hj hd => ?_, restOK_ofM h.1, fun i hi => ?_⟩
    · obtain ⟨p1, p2, p3⟩ := plainB_ok hpl hi hj hd
      exact ⟨p1, fun hij => ⟨.inl fun q => hij (p2 q), fun hm => .inl (p3 hm)⟩⟩
    · exact memN_iff.1 (List.all_eq_true.1 h.2 i (List.mem_range.2 hi))
  | false =>
  rw [hpl] at h
  simp only [cond_false] at h
  rw [Bool.and_eq_true] at h
  have hall := fun i (hi : i < ops.size) => List.all_eq_true.1 h.2 i (List.mem_range.2 hi)
  refine ⟨fun i j oi oj d hi hj hd => ?_, restOK_of h.1, fun i hi => ?_⟩
  · have hil := (Array.getElem?_eq_some_iff.1 hi).1
    have hjl := (Array.getElem?_eq_some_iff.1 hj).1
    have := hall i hil
    rw [Bool.and_eq_true] at this
    have := List.all_eq_true.1 this.2 j (List.mem_range.2 hjl)
    unfold pairB at this
    rw [hi, hj] at this
    simp only [hd] at this
    cases hb : Nat.beq i j with
    | true =>
      rw [hb] at this
      have hij := Nat.eq_of_beq_eq_true hb
      refine ⟨fun _ hm => ?_, fun q => absurd hij q⟩
      rw [memN_iff.2 hm] at this; cases this
    | false =>
      rw [hb] at this
      simp only [cond_false, Bool.and_eq_true, bne_iff_ne, ne_eq, Bool.or_eq_true, Bool.not_eq_true'] at this
      refine ⟨fun q => (by rw [q, Nat.beq_refl] at hb; cases hb), fun _ => ⟨?_, fun hm => ?_⟩⟩
      · rcases this.1 with (q | q) | q
        · exact .inl q
        · exact .inr (.inl ⟨memN_iff.1 q.1, q.2⟩)
        · exact .inr (.inr ⟨memN_iff.1 q.1, q.2⟩)
      · rcases this.2 with (q | q) | q
        · rw [memN_iff.2 hm] at q; cases q
        · exact .inl (memN_iff.1 q)
        · exact .inr ⟨memN_iff.1 q.1, q.2⟩
  · have := hall i hi
    rw [Bool.and_eq_true] at this
    exact memN_iff.1 this.1

section
variable {P : Program} {ops : Array Oper} {N : Nat} {ex : ExT} {ro roR : Option Nat} {Q : Exit → Act → World → Prop}
def DV (N : Nat) (tm : T Value) (o : Oper) (v : Value) : Prop := ∀ d, o.dst = some d → d < N ∧ tm.get d = some v
/-- what the run has done of an operation that the world has not done -/
def PO (P : Program) (ops : Array Oper) (N : Nat) (g : Nat → Option Nat) (pend : List Pn) (st : St) (tm : T Value) (i : Nat) (o : Oper) : Prop :=
  (wantedA ops o tm = some false ∧ DV N tm o undef ∧ g i = none) ∨
  (wantedA ops o tm = some true ∧ ∃ v, DV N tm o v ∧
    ((aopP P o tm = some v ∧ g i = none) ∨
     (aop P o st tm = .val v st ∧ g i = none ∧ ∃ p ∈ pend, p.i = i ∧ p.o = o ∧ p.v = v ∧ p.id = none ∧ isLoad o = true) ∨
     (∃ id b, g i = some id ∧ (∃ p ∈ pend, p.i = i ∧ p.id = some id) ∧ st.heap.get id = some b ∧ 0 < b.n ∧ b.frz = 0 ∧ 204 ≤ id ∧ opsLt id tm o = true ∧ aop P o ⟨.leaf, id, 0, .leaf⟩ tm = .val v ⟨T.set .leaf id b, id + 1, 0, .leaf⟩)))
def dsts (D : List (Nat × Oper)) : List Nat := D.filterMap (·.2.dst)
theorem mem_dsts {D : List (Nat × Oper)} {t : Nat} : t ∈ dsts D ↔ ∃ y ∈ D, y.2.dst = some t := by
  unfold dsts; exact List.mem_filterMap
theorem Rel.gh_mono {w0 w : World} {gh gh' : Nat → Prop} {ρ : Ren} {st : St} (h : Rel ⟨w0, gh⟩ ρ st w) (hs : ∀ k, gh' k → gh k) : Rel ⟨w0, gh'⟩ ρ st w :=
  ⟨h.below, h.dom, fun id b t h1 h2 => let ⟨cs, fr, B⟩ := h.have_ id b t h1 h2; ⟨cs, fr, B.lo, B.at_, B.cell, B.exact_, B.room, B.thaw, B.ty, B.calm⟩, h.inj, fun k hk => h.gho k (hs k hk), h.obs_, h.odom, h.oinj, h.odis⟩
theorem mask_free {D : List (Nat × Oper)} {o : Oper} {tm : T Value} (hfree : ∀ t ∈ o.looksAt ops, t ∉ dsts D) : ∀ t, t ∈ o.looksAt ops → t ≠ dKey → (maskL (dsts D) tm).get t = tm.get t := fun t ht _ => by
  rw [get_mask, if_neg (hfree t ht)]
theorem opsLt_same {tm tm' : T Value} {o : Oper} {k : Nat} (h : ∀ t, t ∈ o.looksAt ops → t ≠ dKey → tm'.get t = tm.get t) : opsLt k tm' o = opsLt k tm o := by
  unfold opsLt
  have : ∀ l : List Operand, (∀ x ∈ l, x ∈ o.op.operands) → (l.all fun x => match x with | .tmp t => (match tget tm' t with | some v => vlt 5 k v | none => true) | _ => true) = (l.all fun x => match x with | .tmp t => (match tget tm t with | some v => vlt 5 k v | none => true) | _ => true) := by
    intro l hl
    induction l with
    | nil => rfl
    | cons x xs ih =>
      simp only [List.all_cons, ih (fun y hy => hl y (List.mem_cons_of_mem _ hy))]
      congr 1
      cases x with
      | tmp t => simp only; rw [tget_same (h t (mem_looks (hl _ (List.mem_cons_self ..))))]
      | _ => rfl
  exact this _ (fun x hx => by simpa using hx)
/-- the world does what the run has done -/
theorem pend_step {w0 w : World} {gh : Nat → Prop} {g : Nat → Option Nat} {ρ : Ren} {st : St} {tm : T Value} {a : Act} {pend : List Pn} {D : List (Nat × Oper)} {i : Nat} {o : Oper} (hoi : ops[i]? = some o) (hok : okOp o = true)
    (hPO : PO P ops N g pend st tm i o) (hfree : ∀ t ∈ o.looksAt ops, t ∉ dsts D) (hrel : Rel ⟨w0, gh⟩ ρ st w) (htr : TR ρ N (maskL (dsts D) tm) a) (hgh : ∀ id, g i = some id → gh id)
    {K : Act → World → Prop} (hK : ∀ ρ' v u w', Sub ρ ρ' → VR ρ' v u → DV N tm o v → Rel ⟨w0, fun k => gh k ∧ g i ≠ some k⟩ ρ' st w' → K (a.put o.dst u) w') : wpOpIn (FW roR) 0 P ops Q i K a w := by
  have hm := mask_free (tm := tm) hfree
  have hwm : wantedA ops o (maskL (dsts D) tm) = wantedA ops o tm := wanted_same hm
  have hag : Agree (maskL (dsts D) tm) tm o.op.operands := agree_of hm
  have hundef : VR ρ undef undef := .tuple rfl fun i x y hx => by simp at hx
  unfold wpOpIn
  simp only [hoi]
  rcases hPO with ⟨h1, h2, h3⟩ | ⟨h1, v, hdv, h2⟩
  · rw [wanted_ok htr (hwm.trans h1)]
    simp only [Bool.false_eq_true, if_false]
    exact ⟨fun _ _ => trivial, hK ρ undef undef w (Sub.refl _) hundef h2 (hrel.gh_mono fun k q => q.1)⟩
  · rw [wanted_ok htr (hwm.trans h1)]
    simp only [if_true]
    refine ⟨fun _ _ => trivial, ?_⟩
    rcases h2 with ⟨h2, _⟩ | ⟨h2, _, _⟩ | ⟨id, b, h2, _, h3, h4, h5, h6, h7, h8⟩
    · obtain ⟨u, q1, q2⟩ := aopP_sound (w := w) (P := P) htr o (by rw [aopP_congr hok hag]; exact h2)
      rw [Oper.semAt_eq _ _ _ (aopP_some_nd h2), q1]
      exact hK ρ v u w (Sub.refl _) q2 hdv (hrel.gh_mono fun k q => q.1)
    · have hs := aop_sound hrel htr o (P := P)
      rw [aop_congr hok hag, h2] at hs
      obtain ⟨ρ', u, w', s1, s2, s3, s4, _⟩ := hs
      rw [Oper.semAt_eq _ _ _ (aop_val_nd h2), s2]
      exact hK ρ' v u w' s1 s3 hdv (s4.gh_mono fun k q => q.1)
    · obtain ⟨ρ', u, w', s1, s2, s3, s4⟩ := realize (P := P) hrel htr hok (by rw [aop_congr hok hag]; exact h8) (by rw [opsLt_same hm]; exact h7) h6 (hgh id h2) h3 h4 h5
      rw [Oper.semAt_eq _ _ _ (aop_val_nd h8), s2]
      exact hK ρ' v u w' s1 s3 hdv (s4.gh_mono fun k q => ⟨q.1, fun e => q.2 (by rw [h2, e])⟩)
/-- the temporaries behind it -/
theorem pend_tr {ρ : Ren} {tm : T Value} {a : Act} {D D' : List (Nat × Oper)} {o : Oper} {v u : Value} (htr : TR ρ N (maskL (dsts D) tm) a) (hv : VR ρ v u) (hdv : DV N tm o v)
    (hD : ∀ t, t ∈ dsts D → t ∈ dsts D' ∨ o.dst = some t) (hD' : ∀ t, t ∈ dsts D' → t ∈ dsts D) (hN : ∀ t ∈ dsts D, t < N) : TR ρ N (maskL (dsts D') tm) (a.put o.dst u) := by
  have hk : dKey ∉ dsts D := fun q => absurd (hN _ q) (Nat.not_lt.2 htr.le)
  have hk' : dKey ∉ dsts D' := fun q => hk (hD' _ q)
  cases ho : o.dst with
  | none =>
    show TR ρ N _ a
    refine htr.sub (by rw [get_mask, get_mask, if_neg hk, if_neg hk']) fun t x ht hx => ?_
    rw [get_mask] at hx
    by_cases q : t ∈ dsts D'
    · rw [if_pos q] at hx; cases hx
    · rw [if_neg q] at hx
      rw [get_mask, if_neg (fun r => by rcases hD t r with r | r; exact q r; rw [ho] at r; cases r)]; exact hx
  | some d =>
    obtain ⟨hd1, hd2⟩ := hdv d ho
    have hp : putD (maskL (dsts D) tm) (some d) v N = some ((maskL (dsts D) tm).set d v) := by
      show (bif Nat.blt d N then _ else none) = _
      rw [show Nat.blt d N = true by rw [Nat.blt, Nat.ble_eq]; exact hd1]; rfl
    refine (htr.put hv hp).sub ?_ fun t x ht hx => ?_
    · rw [T.get_set, if_neg (show ¬ dKey = d from fun q => Nat.lt_irrefl d (Nat.lt_of_lt_of_le hd1 (q ▸ htr.le))), get_mask, get_mask, if_neg hk, if_neg hk']
    · rw [get_mask] at hx
      rw [T.get_set]
      by_cases q : t ∈ dsts D'
      · rw [if_pos q] at hx; cases hx
      · rw [if_neg q] at hx
        by_cases q2 : t = d
        · rw [if_pos q2, ← hd2, ← q2]; exact hx
        · rw [if_neg q2, get_mask, if_neg (fun r => by rcases hD t r with r | r; exact q r; rw [ho] at r; injection r with r; exact q2 r.symm)]; exact hx
/-- an effect, at the masked temporaries -/
theorem opsRun_one {o : Oper} {st s1 : St} {tm tm' t1 : T Value} (hw : wantedA ops o tm' = wantedA ops o tm) (ha : aop P o st tm' = aop P o st tm) (hd : tm'.get dKey = tm.get dKey) (e : opsRun P ex ro ops N [o] st tm = .ok (s1, t1)) :
    ∃ t1', opsRun P ex ro ops N [o] st tm' = .ok (s1, t1') ∧ (∀ t, o.dst = some t ∨ t = dKey → t1'.get t = t1.get t) ∧ ∀ t, o.dst ≠ some t → t ≠ dKey → t1'.get t = tm'.get t ∧ t1.get t = tm.get t := by
  have e2 : (match wantedA ops o tm with
      | some true =>
        (match aop P o st tm with
        | .val v st => (match putD tm o.dst v N with | some tm => Rs.ok (st, tm) | none => .err (some o) 1)
        | .skip st => (match putD tm o.dst undef N with | some tm => .ok (st, tm) | none => .err (some o) 2)
        | .call f args => (match doCall P ex f args st with
          | .ok (v, st) => (match putD tm o.dst v N with | some tm => .ok (st, tm) | none => .err (some o) 2)
          | .err o f => .err o f)
        | .defer v => (match deferIn ro (putD tm o.dst undef N) with | some tm => .ok (st, pushD tm v) | none => .err (some o) 2)
        | .round l args => (match doRound ex l args st with
          | .ok (v, st) => (match putD tm o.dst v N with | some tm => .ok (st, tm) | none => .err (some o) 2)
          | .err o f => .err o f)
        | .fail => .err (some o) 0)
      | some false => (match putD tm o.dst undef N with | some tm => .ok (st, tm) | none => .err (some o) 2)
      | none => .err (some o) 3) = Rs.ok (s1, t1) := (opsRun_cons P ex ro ops N o [] st tm).symm.trans e
  clear e
  rw [opsRun_cons P ex ro ops N o [] st tm']
  show ∃ t1', (match wantedA ops o tm' with
      | some true =>
        (match aop P o st tm' with
        | .val v st => (match putD tm' o.dst v N with | some tm => Rs.ok (st, tm) | none => .err (some o) 1)
        | .skip st => (match putD tm' o.dst undef N with | some tm => .ok (st, tm) | none => .err (some o) 2)
        | .call f args => (match doCall P ex f args st with
          | .ok (v, st) => (match putD tm' o.dst v N with | some tm => .ok (st, tm) | none => .err (some o) 2)
          | .err o f => .err o f)
        | .defer v => (match deferIn ro (putD tm' o.dst undef N) with | some tm => .ok (st, pushD tm v) | none => .err (some o) 2)
        | .round l args => (match doRound ex l args st with
          | .ok (v, st) => (match putD tm' o.dst v N with | some tm => .ok (st, tm) | none => .err (some o) 2)
          | .err o f => .err o f)
        | .fail => .err (some o) 0)
      | some false => (match putD tm' o.dst undef N with | some tm => .ok (st, tm) | none => .err (some o) 2)
      | none => .err (some o) 3) = Rs.ok (s1, t1') ∧ _
  rw [hw, ha]
  have put : ∀ (v : Value) (tp : T Value), putD tm o.dst v N = some tp → ∃ tp', putD tm' o.dst v N = some tp' ∧ (∀ t, o.dst = some t ∨ t = dKey → tp'.get t = tp.get t) ∧ ∀ t, o.dst ≠ some t → t ≠ dKey → tp'.get t = tm'.get t ∧ tp.get t = tm.get t := by
    intro v tp hp
    cases ho : o.dst with
    | none =>
      rw [ho] at hp
      cases hp
      exact ⟨tm', rfl, fun t ht => (by rcases ht with q | q; (cases q); (rw [q]; exact hd)), fun t _ _ => ⟨rfl, rfl⟩⟩
    | some d =>
      rw [ho] at hp
      have hp' : (bif Nat.blt d N then some (tm.set d v) else none) = some tp := hp
      cases hb : Nat.blt d N with
      | false => rw [hb] at hp'; cases hp'
      | true =>
        rw [hb] at hp'
        cases hp'
        refine ⟨tm'.set d v, by show (bif Nat.blt d N then _ else none) = _; rw [hb]; rfl, fun t ht => ?_, fun t ht _ => ?_⟩
        · rw [T.get_set, T.get_set]
          by_cases q : t = d
          · rw [if_pos q, if_pos q]
          · rw [if_neg q, if_neg q]
            rcases ht with r | r
            · injection r with r; exact absurd r.symm q
            · rw [r]; exact hd
        · rw [T.get_set, T.get_set, if_neg (fun q => ht (by rw [q])), if_neg (fun q => ht (by rw [q]))]; exact ⟨rfl, rfl⟩
  cases hwt : wantedA ops o tm with
  | none => rw [hwt] at e2; cases e2
  | some b =>
    rw [hwt] at e2
    cases b with
    | false =>
      simp only at e2 ⊢
      cases hp : putD tm o.dst undef N with
      | none => rw [hp] at e2; cases e2
      | some tp =>
        rw [hp] at e2
        cases e2
        obtain ⟨tp', q1, q2⟩ := put _ _ hp
        exact ⟨tp', by rw [q1], q2⟩
    | true =>
      simp only at e2 ⊢
      cases haop : aop P o st tm with
      | fail => rw [haop] at e2; cases e2
      | val v s2 =>
        rw [haop] at e2
        simp only at e2 ⊢
        cases hp : putD tm o.dst v N with
        | none => rw [hp] at e2; cases e2
        | some tp =>
          rw [hp] at e2
          cases e2
          obtain ⟨tp', q1, q2⟩ := put _ _ hp
          exact ⟨tp', by rw [q1], q2⟩
      | skip s2 =>
        rw [haop] at e2
        simp only at e2 ⊢
        cases hp : putD tm o.dst undef N with
        | none => rw [hp] at e2; cases e2
        | some tp =>
          rw [hp] at e2
          cases e2
          obtain ⟨tp', q1, q2⟩ := put _ _ hp
          exact ⟨tp', by rw [q1], q2⟩
      | call f args =>
        rw [haop] at e2
        simp only at e2 ⊢
        cases hc : doCall P ex f args st with
        | err a b => rw [hc] at e2; cases e2
        | ok r =>
          obtain ⟨v, s2⟩ := r
          rw [hc] at e2
          simp only at e2 ⊢
          cases hp : putD tm o.dst v N with
          | none => rw [hp] at e2; cases e2
          | some tp =>
            rw [hp] at e2
            cases e2
            obtain ⟨tp', q1, q2⟩ := put _ _ hp
            exact ⟨tp', by rw [q1], q2⟩
      | round l args =>
        rw [haop] at e2
        simp only at e2 ⊢
        cases hc : doRound ex l args st with
        | err a b => rw [hc] at e2; cases e2
        | ok r =>
          obtain ⟨v, s2⟩ := r
          rw [hc] at e2
          simp only at e2 ⊢
          cases hp : putD tm o.dst v N with
          | none => rw [hp] at e2; cases e2
          | some tp =>
            rw [hp] at e2
            cases e2
            obtain ⟨tp', q1, q2⟩ := put _ _ hp
            exact ⟨tp', by rw [q1], q2⟩
      | defer v =>
        rw [haop] at e2
        cases ro with
        | some l0 => cases e2
        | none =>
        have e2 : (match putD tm o.dst undef N with | some tm => Rs.ok (st, pushD tm v) | none => .err (some o) 2) = Rs.ok (s1, t1) := e2
        show ∃ t1', (match putD tm' o.dst undef N with | some tm => Rs.ok (st, pushD tm v) | none => .err (some o) 2) = Rs.ok (s1, t1') ∧ _
        cases hp : putD tm o.dst undef N with
        | none => rw [hp] at e2; cases e2
        | some tp =>
          rw [hp] at e2
          cases e2
          obtain ⟨tp', q1, q2, q3⟩ := put _ _ hp
          refine ⟨pushD tp' v, by rw [q1], fun t ht => ?_, fun t h1 h2 => ?_⟩
          · unfold pushD
            rw [T.get_set, T.get_set, q2 dKey (.inr rfl)]
            by_cases q : t = dKey
            · rw [if_pos q, if_pos q]
            · rw [if_neg q, if_neg q]; exact q2 t ht
          · unfold pushD
            rw [T.get_set, T.get_set, if_neg h2, if_neg h2]; exact q3 t h1 h2
end

section
variable {P : Program} {ops : Array Oper} {N : Nat} {ex : ExT} {ro roR : Option Nat}
structure SI (P : Program) (ops : Array Oper) (N : Nat) (w0 : World) (gh0 : Nat → Prop) (g : Nat → Option Nat) (rest : List Nat) (D : List (Nat × Oper)) (pend : List Pn) (st : St) (tm : T Value) (listed : Array Bool) (ρ : Ren) (a : Act) (w : World) : Prop where
  hop : ∀ y ∈ D, ops[y.1]? = some y.2 ∧ okOp y.2 = true ∧ ∀ k ∈ afterB y.2, k ∉ rest ∧ k < ops.size
  ne : ∀ y ∈ D, isEffR P ops y.1 y.2 = false
  hl : ∀ i, i < ops.size → (listed.getD i true = false ↔ (i ∈ rest ∨ ∃ y ∈ D, y.1 = i))
  hls : listed.size = ops.size
  dis : ∀ y ∈ D, y.1 ∉ rest
  ord : D.Pairwise (fun y y' => y.1 ∉ afterB y'.2)
  self : ∀ y ∈ D, y.1 ∉ afterB y.2
  po : ∀ y ∈ D, PO P ops N g pend st tm y.1 y.2
  gi : ∀ i j id, g i = some id → g j = some id → i = j
  gl : ∀ i id, g i = some id → id < st.next
  gr : ∀ i ∈ rest, g i = none
  rel : Rel ⟨w0, fun k => gh0 k ∨ ∃ y ∈ D, g y.1 = some k⟩ ρ st w
  tr : TR ρ N (maskL (dsts D) tm) a
theorem load_st {o : Oper} {st st' : St} {tm : T Value} {v : Value} (hl : isLoad o = true) (e : aop P o st tm = .val v st') : st' = st := by
  unfold isLoad at hl
  unfold aop at e
  cases hop : o.op <;> rw [hop] at e hl <;> (try (cases hl; done))
  rename_i t x
  simp only at e
  cases hv : aev tm x with
  | none => rw [hv] at e; cases e
  | some y =>
    rw [hv] at e
    simp only at e
    cases hr : aLoad P t y st with
    | none => rw [hr] at e; cases e
    | some r =>
      obtain ⟨z, s⟩ := r
      rw [hr] at e
      cases e
      unfold aLoad at hr
      cases y <;> try (cases hr; done)
      rename_i p
      cases p with
      | none => cases hr
      | some ad =>
        obtain ⟨id, off, spot⟩ := ad
        cases spot with
        | some _ => cases hr
        | none =>
          simp only at hr
          cases hb : st.heap.get id with
          | none => rw [hb] at hr; cases hr
          | some b =>
            rw [hb] at hr
            simp only at hr
            cases hk : tySize P t with
            | none => rw [hk] at hr; cases hr
            | some k =>
              cases ha : tyAgg P t with
              | none => rw [hk, ha] at hr; cases hr
              | some ag =>
                rw [hk, ha] at hr
                cases ag with
                | true =>
                  simp only at hr
                  cases hc : Nat.ble (off + k) b.n with
                  | false => rw [hc] at hr; cases hr
                  | true =>
                    rw [hc] at hr
                    simp only [cond_true] at hr
                    cases hl : getCellsFrom b.cells k off with
                    | none => rw [hl] at hr; cases hr
                    | some l => rw [hl] at hr; cases hr; rfl
                | false =>
                  simp only at hr
                  cases hc : Nat.blt off b.n with
                  | false => rw [hc] at hr; cases hr
                  | true =>
                    rw [hc] at hr
                    simp only [cond_true] at hr
                    cases hl : b.cells.get off with
                    | none => rw [hl] at hr; cases hr
                    | some l => rw [hl] at hr; cases hr; rfl
theorem loadOk_at {o : Oper} {st : St} {tm : T Value} {p : Pn} (h : loadOk P st tm p = true) (hi : p.id = none) (ho : p.o = o) (hl : isLoad o = true) : aop P o st tm = .val p.v st := by
  unfold loadOk at h
  rw [hi, ho] at h
  simp only at h
  cases he : aop P o st tm with
  | val v s =>
    rw [he] at h
    simp only at h
    rw [eqV_ok 4 _ _ h, load_st hl he]
  | _ => rw [he] at h; cases h
theorem DV.lt {tm : T Value} {o : Oper} {v : Value} (h : DV N tm o v) {d : Nat} (hd : o.dst = some d) : d < N := (h d hd).1
theorem PO.lt {g : Nat → Option Nat} {pend : List Pn} {st : St} {tm : T Value} {i : Nat} {o : Oper} (h : PO P ops N g pend st tm i o) {d : Nat} (hd : o.dst = some d) : d < N := by
  rcases h with ⟨_, h, _⟩ | ⟨_, v, h, _⟩ <;> exact h.lt hd
theorem SI.ltN {w0 w : World} {gh0 : Nat → Prop} {g : Nat → Option Nat} {rest : List Nat} {D : List (Nat × Oper)} {pend : List Pn} {st : St} {tm : T Value} {listed : Array Bool} {ρ : Ren} {a : Act} (h : SI P ops N w0 gh0 g rest D pend st tm listed ρ a w) : ∀ t ∈ dsts D, t < N := by
  intro t ht
  obtain ⟨y, hy, hd⟩ := mem_dsts.1 ht
  exact (h.po y hy).lt hd
theorem PO.mono {g g' : Nat → Option Nat} {pend pend' : List Pn} {st st' : St} {tm tm' : T Value} {i : Nat} {o : Oper} (hok : okOp o = true) (h : PO P ops N g pend st tm i o) (hg : g' i = g i)
    (hag : ∀ t, t ∈ o.looksAt ops → t ≠ dKey → tm'.get t = tm.get t) (hdv : ∀ d, o.dst = some d → tm'.get d = tm.get d)
    (hp : ∀ p ∈ pend, p.i = i → p ∈ pend') (hload : ∀ p ∈ pend, p.i = i → p.o = o → p.id = none → isLoad o = true → aop P o st tm = .val p.v st → aop P o st' tm' = .val p.v st')
    (hblk : ∀ p ∈ pend, p.i = i → ∀ id, p.id = some id → g i = some id → st'.heap.get id = st.heap.get id) : PO P ops N g' pend' st' tm' i o := by
  have hA : Agree tm' tm o.op.operands := agree_of hag
  have hd : ∀ v, DV N tm o v → DV N tm' o v := fun v q d e => ⟨(q d e).1, (hdv d e).trans (q d e).2⟩
  rcases h with ⟨h1, h2, h3⟩ | ⟨h1, v, h2, h3⟩
  · exact .inl ⟨(wanted_same hag).trans h1, hd _ h2, hg.trans h3⟩
  · refine .inr ⟨(wanted_same hag).trans h1, v, hd _ h2, ?_⟩
    rcases h3 with ⟨q1, q2⟩ | ⟨q1, q2, p, q3, q4, q5, q6, q7, q8⟩ | ⟨id, b, q1, ⟨p, q2, q3, q4⟩, q5, q6, q7, q8, q9, q10⟩
    · exact .inl ⟨(aopP_congr hok hA).trans q1, hg.trans q2⟩
    · refine .inr (.inl ⟨?_, hg.trans q2, p, hp p q3 q4, q4, q5, q6, q7, q8⟩)
      have := hload p q3 q4 q5 q7 q8 (by rw [q6]; exact q1)
      rw [q6] at this; exact this
    · exact .inr (.inr ⟨id, b, hg.trans q1, ⟨p, hp p q2 q3, q3, q4⟩, (hblk p q2 q3 id q4 q1).trans q5, q6, q7, q8, (opsLt_same hag).trans q9, (aop_congr hok hA).trans q10⟩)
/-- a block that the run makes ahead of the world -/
theorem Rel.ghost {w0 w : World} {gh : Nat → Prop} {ρ : Ren} {st : St} (h : Rel ⟨w0, gh⟩ ρ st w) (b : Blk) : Rel ⟨w0, fun k => gh k ∨ k = st.next⟩ ρ ⟨st.heap.set st.next b, st.next + 1, st.minw, st.obs⟩ w := by
  have hn : ρ st.next = none := (h.dom _ (Nat.le_refl _)).1
  have hg : ∀ {i c t}, (st.heap.set st.next b).get i = some c → ρ i = some t → st.heap.get i = some c := by
    intro i c t hi ht
    rw [T.get_set, if_neg (by intro q; rw [q, hn] at ht; cases ht)] at hi
    exact hi
  refine ⟨h.below, fun i hi => ?_, fun i c t hi ht => ?_, fun i j c d s t hi hj hs ht e => h.inj i j c d s t (hg hi hs) (hg hj ht) hs ht e, fun k hk => ?_, h.obs_, fun i hi => h.odom i (Nat.le_of_succ_le hi), h.oinj, h.odis_new b⟩
  · have hi' : st.next + 1 ≤ i := hi
    obtain ⟨q1, q2⟩ := h.dom i (by omega)
    refine ⟨q1, ?_⟩
    show (st.heap.set st.next b).get i = none
    rw [T.get_set, if_neg (by omega)]; exact q2
  · obtain ⟨cs, fr, B⟩ := h.have_ i c t (hg hi ht) ht
    exact ⟨cs, fr, B.lo, B.at_, B.cell, B.exact_, B.room, B.thaw, B.ty, B.calm⟩
  · rcases hk with q | q
    · obtain ⟨r1, r2⟩ := h.gho k q; exact ⟨r1, Nat.lt_succ_of_lt r2⟩
    · rw [q]; exact ⟨hn, Nat.lt_succ_self _⟩
/-- the run takes one operation more -/
theorem SI.take {w0 w : World} {gh0 : Nat → Prop} {g g' : Nat → Option Nat} {i : Nat} {l : List Nat} {D : List (Nat × Oper)} {pend pend' : List Pn} {st st' : St} {tm tm' : T Value} {listed : Array Bool} {ρ : Ren} {a : Act} {o : Oper} {v : Value}
    (hP : Pairs P ops) (h : SI P ops N w0 gh0 g (i :: l) D pend st tm listed ρ a w) (hR : RestOK P ops (i :: l)) (hoi : ops[i]? = some o) (hnf : isEffR P ops i o = false) (hput : putD tm o.dst v N = some tm')
    (hnew : DV N tm' o v → PO P ops N g' pend' st' tm' i o) (hg : ∀ j, j ≠ i → g' j = g j) (hpp : ∀ p ∈ pend, p ∈ pend')
    (hload : ∀ p ∈ pend, p.id = none → isLoad p.o = true → (Agree tm' tm p.o.op.operands) → okOp p.o = true → aop P p.o st tm = .val p.v st → aop P p.o st' tm' = .val p.v st')
    (hblk : ∀ id, id < st.next → st'.heap.get id = st.heap.get id)
    (hgi : ∀ i j id, g' i = some id → g' j = some id → i = j) (hgl : ∀ i id, g' i = some id → id < st'.next)
    (hrel : Rel ⟨w0, fun k => gh0 k ∨ ∃ y ∈ (i, o) :: D, g' y.1 = some k⟩ ρ st' w) : SI P ops N w0 gh0 g' l ((i, o) :: D) pend' st' tm' listed ρ a w := by
  obtain ⟨⟨o', hoi', hok, haft, hil, heff⟩, hR'⟩ := hR
  rw [hoi] at hoi'; cases hoi'
  have hsame : ∀ t, o.dst ≠ some t → tm'.get t = tm.get t := by
    intro t ht
    cases hd : o.dst with
    | none => rw [hd] at hput; cases hput; rfl
    | some d =>
      rw [hd] at hput
      have hput' : (bif Nat.blt d N then some (tm.set d v) else none) = some tm' := hput
      cases hb : Nat.blt d N with
      | false => rw [hb] at hput'; cases hput'
      | true =>
        rw [hb] at hput'; cases hput'
        rw [T.get_set, if_neg (fun q => ht (by rw [hd, q]))]
  have hdv : DV N tm' o v := by
    intro d hd
    rw [hd] at hput
    have hput' : (bif Nat.blt d N then some (tm.set d v) else none) = some tm' := hput
    cases hb : Nat.blt d N with
    | false => rw [hb] at hput'; cases hput'
    | true =>
      rw [hb] at hput'; cases hput'
      exact ⟨blt_lt hb, by rw [T.get_set, if_pos rfl]⟩
  have hne : ∀ y ∈ D, y.1 ≠ i := fun y hy q => h.dis y hy (by rw [q]; exact List.mem_cons_self ..)
  have hlook : ∀ y ∈ D, ∀ t, t ∈ y.2.looksAt ops → tm'.get t = tm.get t := by
    intro y hy t ht
    refine hsame t fun q => ?_
    obtain ⟨r1, r2⟩ := (hP y.1 i y.2 o t (h.hop y hy).1 hoi q).2 (hne y hy)
    rcases r2 ht with r | ⟨_, r⟩
    · exact ((h.hop y hy).2.2 i r).1 (List.mem_cons_self ..)
    · rw [hnf] at r; cases r
  have hN : ∀ t ∈ dsts D, t < N := h.ltN
  refine ⟨?_, ?_, ?_, h.hls, ?_, ?_, ?_, ?_, hgi, hgl, ?_, hrel, ?_⟩
  · intro y hy
    rcases List.mem_cons.1 hy with rfl | hy
    · exact ⟨hoi, hok, fun k hk => ⟨fun q => (haft k hk).1 (List.mem_cons_of_mem _ q), (haft k hk).2⟩⟩
    · obtain ⟨q1, q2, q3⟩ := h.hop y hy
      exact ⟨q1, q2, fun k hk => ⟨fun q => (q3 k hk).1 (List.mem_cons_of_mem _ q), (q3 k hk).2⟩⟩
  · intro y hy
    rcases List.mem_cons.1 hy with rfl | hy
    · exact hnf
    · exact h.ne y hy
  · intro j hj
    rw [h.hl j hj]
    constructor
    · rintro (q | ⟨y, hy, q⟩)
      · rcases List.mem_cons.1 q with rfl | q
        · exact .inr ⟨_, List.mem_cons_self .., rfl⟩
        · exact .inl q
      · exact .inr ⟨y, List.mem_cons_of_mem _ hy, q⟩
    · rintro (q | ⟨y, hy, q⟩)
      · exact .inl (List.mem_cons_of_mem _ q)
      · rcases List.mem_cons.1 hy with rfl | hy
        · rw [← q]; exact .inl (List.mem_cons_self ..)
        · exact .inr ⟨y, hy, q⟩
  · intro y hy
    rcases List.mem_cons.1 hy with rfl | hy
    · exact hil
    · exact fun q => h.dis y hy (List.mem_cons_of_mem _ q)
  · refine List.pairwise_cons.2 ⟨fun y hy q => ?_, h.ord⟩
    exact ((h.hop y hy).2.2 i q).1 (List.mem_cons_self ..)
  · intro y hy
    rcases List.mem_cons.1 hy with rfl | hy
    · exact fun q => (haft i q).1 (List.mem_cons_self ..)
    · exact h.self y hy
  · intro y hy
    rcases List.mem_cons.1 hy with rfl | hy
    · exact hnew hdv
    · have hA : Agree tm' tm y.2.op.operands := agree_of fun t ht _ => hlook y hy t ht
      refine (h.po y hy).mono (h.hop y hy).2.1 (hg _ (hne y hy)) (fun t ht _ => hlook y hy t ht) (fun d hd => hsame d fun q => ?_) (fun p hp _ => hpp p hp) (fun p hp _ ho hi hl e => ?_) (fun p hp hi id hid hgid => hblk id (h.gl _ id hgid))
      · rcases ((hP i y.1 o y.2 d hoi (h.hop y hy).1 hd).2 (Ne.symm (hne y hy))).1 with r | ⟨_, r⟩ | ⟨_, r⟩
        · exact r q
        · rw [h.ne y hy] at r; cases r
        · rw [hnf] at r; cases r
      · rw [← ho] at e hA hl ⊢
        exact hload p hp hi hl hA (by rw [ho]; exact (h.hop y hy).2.1) e
  · intro j hj
    rw [hg j (fun q => hil (by rw [← q]; exact hj))]
    exact h.gr j (List.mem_cons_of_mem _ hj)
  · have hk : dKey ∉ dsts D := fun q => absurd (hN _ q) (Nat.not_lt.2 h.tr.le)
    have hdk : o.dst ≠ some dKey := fun q => absurd (hdv.lt q) (Nat.not_lt.2 h.tr.le)
    have hmem : ∀ t, t ∈ dsts ((i, o) :: D) ↔ o.dst = some t ∨ t ∈ dsts D := by
      intro t
      rw [mem_dsts, mem_dsts]
      constructor
      · rintro ⟨y, hy, q⟩
        rcases List.mem_cons.1 hy with rfl | hy
        · exact .inl q
        · exact .inr ⟨y, hy, q⟩
      · rintro (q | ⟨y, hy, q⟩)
        · exact ⟨_, List.mem_cons_self .., q⟩
        · exact ⟨y, List.mem_cons_of_mem _ hy, q⟩
    refine h.tr.sub ?_ fun t x ht hx => ?_
    · rw [get_mask, get_mask, if_neg hk, if_neg (fun q => by rcases (hmem _).1 q with q | q; exact hdk q; exact hk q), hsame _ hdk]
    · rw [get_mask] at hx
      by_cases q : t ∈ dsts ((i, o) :: D)
      · rw [if_pos q] at hx; cases hx
      · rw [if_neg q, hsame t (fun r => q ((hmem t).2 (.inl r)))] at hx
        rw [get_mask, if_neg (fun r => q ((hmem t).2 (.inr r)))]; exact hx
/-- an operation that the world may do now looks at no temporary that is still to come -/
theorem SI.free {w0 w : World} {gh0 : Nat → Prop} {g : Nat → Option Nat} {rest : List Nat} {D : List (Nat × Oper)} {pend : List Pn} {st : St} {tm : T Value} {listed : Array Bool} {ρ : Ren} {a : Act}
    (hP : Pairs P ops) (h : SI P ops N w0 gh0 g rest D pend st tm listed ρ a w) {i : Nat} {o : Oper} (hoi : ops[i]? = some o) (hr : i ∈ Region.ready .any ops listed) : ∀ t ∈ o.looksAt ops, t ∉ dsts D := by
  intro t ht hm
  obtain ⟨y, hy, hd⟩ := mem_dsts.1 hm
  have hyo := (h.hop y hy).1
  obtain ⟨q1, q2⟩ := hP i y.1 o y.2 t hoi hyo hd
  by_cases e : i = y.1
  · exact q1 e ht
  · have hk : y.1 ∈ afterB o := by
      rcases (q2 e).2 ht with r | ⟨_, r⟩
      · exact r
      · rw [h.ne y hy] at r; cases r
    obtain ⟨e1, he1, hb, hon⟩ := mem_afterB.1 hk
    obtain ⟨_, o', ho', hall⟩ := mem_ready.1 hr
    rw [hoi] at ho'; cases ho'
    have h1 := hall e1 he1 hb
    rw [hon] at h1
    have hlt := (Array.getElem?_eq_some_iff.1 hyo).1
    have h0 := (h.hl y.1 hlt).2 (.inr ⟨y, hy, rfl⟩)
    have hls := h.hls
    simp only [Array.getD_eq_getD_getElem?, Array.getElem?_eq_getElem (show y.1 < listed.size by omega), Option.getD_some] at h0 h1
    rw [h0] at h1; cases h1
/-- where nothing may come up, all has come up -/
theorem SI.ready {w0 w : World} {gh0 : Nat → Prop} {g : Nat → Option Nat} {rest : List Nat} {D : List (Nat × Oper)} {pend : List Pn} {st : St} {tm : T Value} {listed : Array Bool} {ρ : Ren} {a : Act}
    (h : SI P ops N w0 gh0 g rest D pend st tm listed ρ a w) (hR : RestOK P ops rest) (hr : Region.ready .any ops listed = []) : rest = [] ∧ D = [] := by
  have up : ∀ i o, ops[i]? = some o → (i ∈ rest ∨ ∃ y ∈ D, y.1 = i) → (∀ k ∈ afterB o, k < ops.size ∧ k ∉ rest ∧ ∀ y ∈ D, y.1 ≠ k) → False := by
    intro i o hoi hun haf
    have hlt := (Array.getElem?_eq_some_iff.1 hoi).1
    have : i ∈ Region.ready .any ops listed := by
      refine mem_ready.2 ⟨(h.hl i hlt).2 hun, o, hoi, fun e he hb => ?_⟩
      obtain ⟨q1, q2, q3⟩ := haf e.on (mem_afterB.2 ⟨e, he, hb, rfl⟩)
      cases hg : listed.getD e.on false with
      | true => rfl
      | false =>
        have hls := h.hls
        have : listed.getD e.on true = false := by
          simp only [Array.getD_eq_getD_getElem?, Array.getElem?_eq_getElem (show e.on < listed.size by omega), Option.getD_some] at hg ⊢
          exact hg
        rcases (h.hl e.on q1).1 this with r | ⟨y, hy, r⟩
        · exact absurd r q2
        · exact absurd r (q3 y hy)
    rw [hr] at this; cases this
  have hD : D = [] := by
    cases hl : D.reverse with
    | nil => simpa using hl
    | cons y D' =>
      exfalso
      have hDe : D = D'.reverse ++ [y] := by
        have := congrArg List.reverse hl
        simpa using this
      have hy : y ∈ D := by rw [hDe]; simp
      refine up y.1 y.2 (h.hop y hy).1 (.inr ⟨y, hy, rfl⟩) fun k hk => ⟨((h.hop y hy).2.2 k hk).2, ((h.hop y hy).2.2 k hk).1, fun z hz q => ?_⟩
      rw [hDe] at hz
      rcases List.mem_append.1 hz with r | r
      · have hord := h.ord
        rw [hDe, List.pairwise_append] at hord
        exact hord.2.2 z r y (by simp) (by rw [q]; exact hk)
      · rw [List.mem_singleton.1 r] at q
        exact h.self y hy (by rw [q]; exact hk)
  refine ⟨?_, hD⟩
  cases rest with
  | nil => rfl
  | cons i l =>
    exfalso
    obtain ⟨⟨o, hoi, _, haf, _, _⟩, _⟩ := hR
    refine up i o hoi (.inl (List.mem_cons_self ..)) fun k hk => ⟨(haf k hk).2, (haf k hk).1, fun y hy q => ?_⟩
    rw [hD] at hy; cases hy
end

section
variable {P : Program} {ops : Array Oper} {N : Nat} {ex : ExT} {ro roR : Option Nat}
theorem RestOK.lt : ∀ {l : List Nat}, RestOK P ops l → ∀ j ∈ l, j < ops.size := by
  intro l
  induction l with
  | nil => intro _ j hj; cases hj
  | cons i l ih =>
    intro h j hj
    obtain ⟨⟨o, hoi, _⟩, h2⟩ := h
    rcases List.mem_cons.1 hj with rfl | hj
    · exact (Array.getElem?_eq_some_iff.1 hoi).1
    · exact ih h2 j hj
theorem put_same {o : Oper} {tm tm' : T Value} {v : Value} (h : putD tm o.dst v N = some tm') : ∀ t, o.dst ≠ some t → tm'.get t = tm.get t := by
  intro t ht
  cases hd : o.dst with
  | none => rw [hd] at h; cases h; rfl
  | some d =>
    rw [hd] at h
    have h' : (bif Nat.blt d N then some (tm.set d v) else none) = some tm' := h
    cases hb : Nat.blt d N with
    | false => rw [hb] at h'; cases h'
    | true =>
      rw [hb] at h'; cases h'
      rw [T.get_set, if_neg (fun q => ht (by rw [hd, q]))]
theorem unlisted_ne {w0 w : World} {gh0 : Nat → Prop} {g : Nat → Option Nat} {rest : List Nat} {D : List (Nat × Oper)} {pend : List Pn} {st : St} {tm : T Value} {listed : Array Bool} {ρ : Ren} {a : Act}
    (h : SI P ops N w0 gh0 g rest D pend st tm listed ρ a w) {k : Nat} (hk : k < ops.size) (hl : listed.getD k false = true) : k ∉ rest ∧ ∀ y ∈ D, y.1 ≠ k := by
  have key : ¬ (k ∈ rest ∨ ∃ y ∈ D, y.1 = k) := by
    intro q
    have h0 := (h.hl k hk).2 q
    have hls := h.hls
    simp only [Array.getD_eq_getD_getElem?, Array.getElem?_eq_getElem (show k < listed.size by omega), Option.getD_some] at h0 hl
    rw [h0] at hl; cases hl
  exact ⟨fun q => key (.inl q), fun y hy q => key (.inr ⟨y, hy, q⟩)⟩
theorem SI.done {w0 w w' : World} {gh0 : Nat → Prop} {g : Nat → Option Nat} {rest : List Nat} {D : List (Nat × Oper)} {pend : List Pn} {st : St} {tm : T Value} {listed : Array Bool} {ρ ρ' : Ren} {a : Act} {i : Nat} {o : Oper} {v u : Value}
    (h : SI P ops N w0 gh0 g rest D pend st tm listed ρ a w) (hy : (i, o) ∈ D) (hg0 : ∀ i id, g i = some id → ¬ gh0 id) (hs : Sub ρ ρ') (hv : VR ρ' v u) (hdv : DV N tm o v)
    (hrel : Rel ⟨w0, fun k => (gh0 k ∨ ∃ y ∈ D, g y.1 = some k) ∧ g i ≠ some k⟩ ρ' st w') :
    SI P ops N w0 gh0 g rest (D.filter fun z => !Nat.beq z.1 i) pend st tm (listed.setIfInBounds i true) ρ' (a.put o.dst u) w' := by
  have hmem : ∀ z, z ∈ (D.filter fun z => !Nat.beq z.1 i) ↔ z ∈ D ∧ z.1 ≠ i := by
    intro z
    rw [List.mem_filter]
    constructor
    · rintro ⟨q1, q2⟩
      refine ⟨q1, fun q => ?_⟩
      rw [q, Nat.beq_refl] at q2; cases q2
    · rintro ⟨q1, q2⟩
      refine ⟨q1, ?_⟩
      cases hb : Nat.beq z.1 i with
      | true => exact absurd (Nat.eq_of_beq_eq_true hb) q2
      | false => rfl
  have hoi := (h.hop _ hy).1
  have hlt := (Array.getElem?_eq_some_iff.1 hoi).1
  have hls := h.hls
  refine ⟨fun y q => h.hop y ((hmem y).1 q).1, fun y q => h.ne y ((hmem y).1 q).1, ?_, by simpa using h.hls, fun y q => h.dis y ((hmem y).1 q).1, h.ord.filter _, fun y q => h.self y ((hmem y).1 q).1, fun y q => h.po y ((hmem y).1 q).1, h.gi, h.gl, h.gr, ?_, ?_⟩
  · intro j hj
    by_cases e : j = i
    · subst e
      constructor
      · intro q; simp [show j < listed.size by omega] at q
      · rintro (q | ⟨y, q1, q2⟩)
        · exact absurd q (h.dis _ hy)
        · exact absurd q2 ((hmem y).1 q1).2
    · rw [getD_set_ne true (Ne.symm e), h.hl j hj]
      constructor
      · rintro (q | ⟨y, q1, q2⟩)
        · exact .inl q
        · exact .inr ⟨y, (hmem y).2 ⟨q1, by rw [q2]; exact e⟩, q2⟩
      · rintro (q | ⟨y, q1, q2⟩)
        · exact .inl q
        · exact .inr ⟨y, ((hmem y).1 q1).1, q2⟩
  · refine hrel.gh_mono fun k q => ?_
    rcases q with q | ⟨y, q1, q2⟩
    · exact ⟨.inl q, fun e => hg0 i k e q⟩
    · exact ⟨.inr ⟨y, ((hmem y).1 q1).1, q2⟩, fun e => ((hmem y).1 q1).2 (h.gi _ _ _ q2 e)⟩
  · refine pend_tr (h.tr.mono hs) hv hdv (fun t ht => ?_) (fun t ht => ?_) h.ltN
    · obtain ⟨y, q1, q2⟩ := mem_dsts.1 ht
      by_cases e : y.1 = i
      · right
        have := (h.hop y q1).1
        rw [e, hoi] at this; cases this
        exact q2
      · exact .inl (mem_dsts.2 ⟨y, (hmem y).2 ⟨q1, e⟩, q2⟩)
    · obtain ⟨y, q1, q2⟩ := mem_dsts.1 ht
      exact mem_dsts.2 ⟨y, ((hmem y).1 q1).1, q2⟩
theorem filter_lt {D : List (Nat × Oper)} {i : Nat} {o : Oper} (h : (i, o) ∈ D) : (D.filter fun z => !Nat.beq z.1 i).length < D.length := by
  refine List.length_filter_lt_length_iff_exists.2 ⟨_, h, ?_⟩
  simp [Nat.beq_refl]
/-- an effect -/
theorem SI.eff {w0 w : World} {gh0 : Nat → Prop} {g : Nat → Option Nat} {i : Nat} {l : List Nat} {D : List (Nat × Oper)} {pend : List Pn} {st s1 : St} {tm t1 : T Value} {listed : Array Bool} {ρ : Ren} {a : Act} {o : Oper} {Q : Exit → Act → World → Prop} {K : Act → World → Prop}
    (hP : Pairs P ops) (hexA : ∀ w0, ExSound P w0 ex) (hRR : RR ρ ro roR) (h : SI P ops N w0 gh0 g (i :: l) D pend st tm listed ρ a w) (hR : RestOK P ops (i :: l)) (hoi : ops[i]? = some o) (hr : i ∈ Region.ready .any ops listed)
    (hrun : opsRun P ex ro ops N [o] { st with minw := st.next } tm = .ok (s1, t1))
    (hchk : ((pend.filter fun y => !memN (afterB o) y.i).all fun y => loadOk P { s1 with minw := Nat.min st.minw s1.minw } t1 y && blkOk st s1 y) = true)
    (hK : ∀ ρ' a' w', Sub ρ ρ' → Fr st { s1 with minw := Nat.min st.minw s1.minw } → SI P ops N w0 gh0 g l D (pend.filter fun y => !memN (afterB o) y.i) { s1 with minw := Nat.min st.minw s1.minw } t1 (listed.setIfInBounds i true) ρ' a' w' → K a' w') : wpOpIn (FW roR) 0 P ops Q i K a w := by
  have hfree := h.free hP hoi hr
  obtain ⟨⟨o', hoi', hok, haft, hil, _⟩, hR'⟩ := hR
  rw [hoi] at hoi'; cases hoi'
  have hm := mask_free (tm := tm) hfree
  have hk : dKey ∉ dsts D := fun q => absurd (h.ltN _ q) (Nat.not_lt.2 h.tr.le)
  obtain ⟨t1', hrun', u1, u2⟩ := opsRun_one (wanted_same hm) (aop_congr hok (agree_of hm)) (by rw [get_mask, if_neg hk]) hrun
  have hlt := (Array.getElem?_eq_some_iff.1 hoi).1
  have hls := h.hls
  have hne : ∀ y ∈ D, y.1 ≠ i := fun y hy q => h.dis y hy (by rw [q]; exact List.mem_cons_self ..)
  have hunl : ∀ y ∈ D, y.1 ∉ afterB o := by
    intro y hy q
    obtain ⟨e, he, hb, hon⟩ := mem_afterB.1 q
    obtain ⟨_, o2, ho2, hall⟩ := mem_ready.1 hr
    rw [hoi] at ho2; cases ho2
    have := hall e he hb
    rw [hon] at this
    exact (unlisted_ne h (haft _ q).2 this).2 y hy rfl
  have this := opsRun_sound (hexA ⟨w0, fun k => gh0 k ∨ ∃ y ∈ D, g y.1 = some k⟩) ro roR ops N [o] i { st with minw := st.next } (maskL (dsts D) tm) s1 t1' (fun k o' hk' => by
      cases k with
      | zero => simp at hk'; subst hk'; exact hoi
      | succ k => simp at hk') hrun' ρ a w hRR (h.rel.minw _) h.tr (Exit.then K Q) (fun a' w' ⟨_, ρ2, r1, r2, r3, r4⟩ => by
    have hfr : Fr st { s1 with minw := Nat.min st.minw s1.minw } := ⟨r4.next, Nat.min_le_left _ _, fun id q1 q2 => r4.keep id (Nat.lt_of_lt_of_le q1 (Nat.min_le_right _ _)) q2, fun id q1 q2 => r4.okeep id (Nat.lt_of_lt_of_le q1 (Nat.min_le_right _ _)) q2⟩
    refine hK ρ2 a' w' r1 hfr ⟨?_, h.ne, ?_, by simpa using hls, ?_, h.ord, h.self, ?_, h.gi, fun j id q => Nat.lt_of_lt_of_le (h.gl j id q) r4.next, fun j hj => h.gr j (List.mem_cons_of_mem _ hj), r2.minw _, ?_⟩
    · intro y hy
      obtain ⟨q1, q2, q3⟩ := h.hop y hy
      exact ⟨q1, q2, fun k hk => ⟨fun q => (q3 k hk).1 (List.mem_cons_of_mem _ q), (q3 k hk).2⟩⟩
    · intro j hj
      by_cases e : j = i
      · subst e
        constructor
        · intro q; simp [show j < listed.size by omega] at q
        · rintro (q | ⟨y, q1, q2⟩)
          · exact absurd q hil
          · exact absurd q2 (hne y q1)
      · rw [getD_set_ne true (Ne.symm e), h.hl j hj]
        constructor
        · rintro (q | q)
          · exact .inl ((List.mem_cons.1 q).resolve_left e)
          · exact .inr q
        · rintro (q | q)
          · exact .inl (List.mem_cons_of_mem _ q)
          · exact .inr q
    · exact fun y hy q => h.dis y hy (List.mem_cons_of_mem _ q)
    · intro y hy
      obtain ⟨hyo, hyk, hya⟩ := h.hop y hy
      have hkeep : ∀ p ∈ pend, p.i = y.1 → p ∈ pend.filter fun y => !memN (afterB o) y.i := by
        intro p hp hpi
        refine List.mem_filter.2 ⟨hp, ?_⟩
        cases hb : memN (afterB o) p.i with
        | false => rfl
        | true => exact absurd (by rw [← hpi]; exact memN_iff.1 hb) (hunl y hy)
      have hc : ∀ p ∈ pend, p.i = y.1 → loadOk P { s1 with minw := Nat.min st.minw s1.minw } t1 p = true ∧ blkOk st s1 p = true := by
        intro p hp hpi
        have := List.all_eq_true.1 hchk p (hkeep p hp hpi)
        simpa only [Bool.and_eq_true] using this
      refine (h.po y hy).mono hyk rfl (fun t ht hkd => ?_) (fun d hd => ?_) hkeep (fun p hp hpi hpo hpid hl _ => loadOk_at (hc p hp hpi).1 hpid hpo hl) (fun p hp hpi id hpid hg => ?_)
      · refine (u2 t (fun q => ?_) hkd).2
        rcases ((hP y.1 i y.2 o t hyo hoi q).2 (hne y hy)).2 ht with r | ⟨r, _⟩
        · exact (hya i r).1 (List.mem_cons_self ..)
        · exact hunl y hy r
      · refine (u2 d (fun q => ?_) ?_).2
        · rcases ((hP i y.1 o y.2 d hoi hyo hd).2 (Ne.symm (hne y hy))).1 with r | ⟨_, r⟩ | ⟨r, _⟩
          · exact r q
          · rw [h.ne y hy] at r; cases r
          · exact hunl y hy r
        · intro q; rw [q] at hd
          exact absurd ((h.po y hy).lt hd) (Nat.not_lt.2 h.tr.le)
      · have hb := (hc p hp hpi).2
        unfold blkOk at hb
        rw [hpid] at hb
        simp only [Bool.or_eq_true] at hb
        rcases hb with hb | hb
        · exact r4.keep id (blt_lt hb) (h.gl _ id hg)
        · exact eqO_ok hb
    · refine r3.sub ?_ fun t x ht hx => ?_
      · rw [get_mask, if_neg hk]; exact (u1 dKey (.inr rfl)).symm
      · rw [get_mask] at hx
        by_cases q : t ∈ dsts D
        · rw [if_pos q] at hx; cases hx
        · rw [if_neg q] at hx
          by_cases q2 : o.dst = some t
          · rw [u1 t (.inl q2)]; exact hx
          · obtain ⟨z1, z2⟩ := u2 t q2 ht
            rw [z1, get_mask, if_neg q, ← z2]; exact hx)
  rw [show List.range' i [o].length = [i] from rfl, wpOpsIn_cons] at this
  unfold wpOpIn at this ⊢
  rw [hoi] at this ⊢
  simp only at this ⊢
  exact this
end

section
variable {P : Program} {ops : Array Oper} {N : Nat} {ex : ExT} {ro roR : Option Nat}
theorem planRun_cons (i : Nat) (l : List Nat) (pend : List Pn) (st : St) (tm : T Value) : planRun P ex ro ops N (i :: l) pend st tm = planStep P ex ro ops N i (planRun P ex ro ops N l) pend st tm := planStepF_eq P ex ro ops N i _ pend st tm
theorem step_any {w0 w : World} {gh0 : Nat → Prop} {ρ0 : Ren} {st0 stF : St} {tmF : T Value} {n : Nat}
    (IH : ∀ (rest : List Nat) (g : Nat → Option Nat) (D : List (Nat × Oper)) (pend : List Pn) (st : St) (tm : T Value) (listed : Array Bool) (ρ : Ren) (a : Act) (w : World), rest.length + D.length ≤ n → RestOK P ops rest → (∀ i id, g i = some id → ¬ gh0 id) → SI P ops N w0 gh0 g rest D pend st tm listed ρ a w → Sub ρ0 ρ → Fr st0 st → planRun P ex ro ops N rest pend st tm = .ok (stF, tmF) → wpAnyIn (FW roR) 0 P .any ops (EndsAt ⟨w0, gh0⟩ ρ0 st0 N .normal stF tmF) n listed a w)
    {rest : List Nat} {g : Nat → Option Nat} {D : List (Nat × Oper)} {pend : List Pn} {st : St} {tm : T Value} {listed : Array Bool} {ρ : Ren} {a : Act}
    (hP : Pairs P ops) (hn : rest.length + D.length ≤ n + 1) (hR : RestOK P ops rest) (hg0 : ∀ i id, g i = some id → ¬ gh0 id) (h : SI P ops N w0 gh0 g rest D pend st tm listed ρ a w) (hs : Sub ρ0 ρ) (hf : Fr st0 st)
    (hrun : planRun P ex ro ops N rest pend st tm = .ok (stF, tmF))
    (hrest : ∀ j ∈ rest, j ∈ Region.ready .any ops listed → wpOpIn (FW roR) 0 P ops (EndsAt ⟨w0, gh0⟩ ρ0 st0 N .normal stF tmF) j (wpAnyIn (FW roR) 0 P .any ops (EndsAt ⟨w0, gh0⟩ ρ0 st0 N .normal stF tmF) n (listed.setIfInBounds j true)) a w) :
    wpAnyIn (FW roR) 0 P .any ops (EndsAt ⟨w0, gh0⟩ ρ0 st0 N .normal stF tmF) (n + 1) listed a w := by
  refine ⟨fun hr => ?_, fun j hj => ?_⟩
  · obtain ⟨rfl, rfl⟩ := h.ready hR hr
    cases hrun
    exact ⟨rfl, ρ, hs, h.rel.gh_mono fun k q => .inl q, h.tr, hf⟩
  · obtain ⟨hun, o, hoj, _⟩ := mem_ready.1 hj
    have hlt := (Array.getElem?_eq_some_iff.1 hoj).1
    rcases (h.hl j hlt).1 hun with q | ⟨y, hy, q⟩
    · exact hrest j q hj
    · obtain ⟨i, o'⟩ := y
      subst q
      obtain ⟨hoi, hok, _⟩ := h.hop _ hy
      refine pend_step hoi hok (h.po _ hy) (h.free hP hoi hj) h.rel h.tr (fun id q => .inr ⟨_, hy, q⟩) fun ρ' v u w' s1 s2 s3 s4 => ?_
      have hfl : (D.filter fun z => !Nat.beq z.1 (i, o').1).length < D.length := filter_lt hy
      exact IH rest g _ pend st tm _ ρ' _ w' (by omega) hR hg0 (h.done hy hg0 s1 s2 s3 s4) (hs.trans s1) hf hrun
theorem sim {w0 : World} {gh0 : Nat → Prop} {ρ0 : Ren} {st0 stF : St} {tmF : T Value} (hRR : RR ρ0 ro roR) (hP : Pairs P ops) (hexA : ∀ w0, ExSound P w0 ex) (hgh : ∀ id, gh0 id → id < st0.next) :
    ∀ (n : Nat) (rest : List Nat) (g : Nat → Option Nat) (D : List (Nat × Oper)) (pend : List Pn) (st : St) (tm : T Value) (listed : Array Bool) (ρ : Ren) (a : Act) (w : World), rest.length + D.length ≤ n → RestOK P ops rest → (∀ i id, g i = some id → ¬ gh0 id) → SI P ops N w0 gh0 g rest D pend st tm listed ρ a w → Sub ρ0 ρ → Fr st0 st → planRun P ex ro ops N rest pend st tm = .ok (stF, tmF) → wpAnyIn (FW roR) 0 P .any ops (EndsAt ⟨w0, gh0⟩ ρ0 st0 N .normal stF tmF) n listed a w := by
  intro n
  induction n with
  | zero =>
    intro rest g D pend st tm listed ρ a w hn hR hg0 h hs hf hrun
    have hr : rest = [] := List.eq_nil_of_length_eq_zero (by omega)
    have hd : D = [] := List.eq_nil_of_length_eq_zero (by omega)
    subst hr hd
    refine ⟨?_, ?_⟩
    · cases hl : Region.ready .any ops listed with
      | nil => rfl
      | cons j js =>
        exfalso
        obtain ⟨hun, o, hoj, _⟩ := mem_ready.1 (by rw [hl]; exact List.mem_cons_self .. : j ∈ Region.ready .any ops listed)
        rcases (h.hl j (Array.getElem?_eq_some_iff.1 hoj).1).1 hun with q | ⟨y, q, _⟩
        · cases q
        · cases q
    · cases hrun
      exact ⟨rfl, ρ, hs, h.rel.gh_mono fun k q => .inl q, h.tr, hf⟩
  | succ n IH =>
    intro rest
    induction rest with
    | nil =>
      intro g D pend st tm listed ρ a w hn hR hg0 h hs hf hrun
      exact step_any IH hP hn hR hg0 h hs hf hrun fun j hj => (by cases hj)
    | cons i l IHr =>
      intro g D pend st tm listed ρ a w hn hR hg0 h hs hf hrun
      obtain ⟨⟨o, hoi, hok, haft, hil, heff⟩, hR'⟩ := hR
      have hR : RestOK P ops (i :: l) := ⟨⟨o, hoi, hok, haft, hil, heff⟩, hR'⟩
      have hgi := h.gr i (List.mem_cons_self ..)
      have hrun0 := hrun
      rw [planRun_cons] at hrun
      unfold planStep at hrun
      rw [hoi] at hrun
      simp only at hrun
      have hself : ∀ {tm' : T Value} {v : Value}, putD tm o.dst v N = some tm' → ∀ t, t ∈ o.looksAt ops → t ≠ dKey → tm'.get t = tm.get t := fun hp t ht _ => put_same hp t fun q => (hP i i o o t hoi hoi q).1 rfl ht
      have hlen : ∀ o, l.length + ((i, o) :: D).length ≤ n + 1 := fun o => by simp only [List.length_cons] at hn ⊢; omega
      have hmono : Rel ⟨w0, fun k => gh0 k ∨ ∃ y ∈ (i, o) :: D, g y.1 = some k⟩ ρ st w := h.rel.gh_mono fun k q => by
        rcases q with q | ⟨y, hy, q⟩
        · exact .inl q
        · rcases List.mem_cons.1 hy with rfl | hy
          · rw [hgi] at q; cases q
          · exact .inr ⟨y, hy, q⟩
      cases he : isEffR P ops i o with
      | true =>
        rw [he] at hrun
        simp only [cond_true] at hrun
        refine step_any IH hP hn hR hg0 h hs hf hrun0 fun j hj hrd => ?_
        rcases List.mem_cons.1 hj with rfl | hj
        · cases ho : opsRun P ex ro ops N [o] { st with minw := st.next } tm with
          | err x y => rw [ho] at hrun; cases hrun
          | ok r =>
            obtain ⟨s1, t1⟩ := r
            rw [ho] at hrun
            simp only at hrun
            cases hc : ((pend.filter fun y => !memN (afterB o) y.i).all fun y => loadOk P { s1 with minw := Nat.min st.minw s1.minw } t1 y && blkOk st s1 y) with
            | false => rw [hc] at hrun; cases hrun
            | true =>
              rw [hc] at hrun
              refine h.eff hP hexA (hRR.mono hs) hR hoi hrd ho hc fun ρ' a' w' s2 s3 s4 => ?_
              exact IH l g D _ _ t1 _ ρ' a' w' (by simp only [List.length_cons] at hn; omega) hR' hg0 s4 (hs.trans s2) (hf.trans s3) hrun
        · exfalso
          obtain ⟨oj, hoj, k, hk, hkm⟩ := heff he j hj
          obtain ⟨e, he1, hb, hon⟩ := mem_afterB.1 hk
          obtain ⟨_, o2, ho2, hall⟩ := mem_ready.1 hrd
          rw [hoj] at ho2; cases ho2
          have := hall e he1 hb
          rw [hon] at this
          exact (unlisted_ne h (hR.lt k hkm) this).1 hkm
      | false =>
        rw [he] at hrun
        simp only [cond_false] at hrun
        cases hw : wantedA ops o tm with
        | none => rw [hw] at hrun; cases hrun
        | some b =>
          rw [hw] at hrun
          cases b with
          | false =>
            simp only at hrun
            cases hp : putD tm o.dst undef N with
            | none => rw [hp] at hrun; cases hrun
            | some tm' =>
              rw [hp] at hrun
              exact IHr g ((i, o) :: D) pend st tm' listed ρ a w (hlen o) hR' hg0
                (h.take hP hR hoi he hp (fun hdv => .inl ⟨(wanted_same (hself hp)).trans hw, hdv, hgi⟩) (fun _ _ => rfl) (fun _ q => q) (fun p _ _ _ hA hk e => (aop_congr hk hA).trans e) (fun _ _ => rfl) h.gi h.gl hmono) hs hf hrun
          | true =>
            simp only at hrun
            cases ha : aopP P o tm with
            | some v =>
              rw [ha] at hrun
              simp only at hrun
              cases hp : putD tm o.dst v N with
              | none => rw [hp] at hrun; cases hrun
              | some tm' =>
                rw [hp] at hrun
                exact IHr g ((i, o) :: D) pend st tm' listed ρ a w (hlen o) hR' hg0
                  (h.take hP hR hoi he hp (fun hdv => .inr ⟨(wanted_same (hself hp)).trans hw, v, hdv, .inl ⟨(aopP_congr hok (agree_of (hself hp))).trans ha, hgi⟩⟩) (fun _ _ => rfl) (fun _ q => q) (fun p _ _ _ hA hk e => (aop_congr hk hA).trans e) (fun _ _ => rfl) h.gi h.gl hmono) hs hf hrun
            | none =>
              rw [ha] at hrun
              simp only at hrun
              cases hao : aop P o st tm with
              | val v st' =>
                rw [hao] at hrun
                simp only at hrun
                cases hp : putD tm o.dst v N with
                | none => rw [hp] at hrun; cases hrun
                | some tm' =>
                  rw [hp] at hrun
                  simp only at hrun
                  have hA := agree_of (hself hp)
                  cases hl : isLoad o with
                  | true =>
                    rw [hl] at hrun
                    simp only [cond_true] at hrun
                    have hst := load_st hl hao
                    subst hst
                    exact IHr g ((i, o) :: D) _ st' tm' listed ρ a w (hlen o) hR' hg0
                      (h.take hP hR hoi he hp (fun hdv => .inr ⟨(wanted_same (hself hp)).trans hw, v, hdv, .inr (.inl ⟨(aop_congr hok hA).trans hao, hgi, ⟨i, o, v, none⟩, List.mem_cons_self .., rfl, rfl, rfl, rfl, hl⟩)⟩) (fun _ _ => rfl) (fun _ q => List.mem_cons_of_mem _ q) (fun p _ _ _ hA hk e => (aop_congr hk hA).trans e) (fun _ _ => rfl) h.gi h.gl hmono) hs hf hrun
                  | false =>
                    rw [hl] at hrun
                    simp only [cond_false] at hrun
                    cases hc : (isMake o && opsLt st.next tm o && Nat.ble 204 st.next && newOk st' st.next && pend.all (loadOk P st' tm')) with
                    | false => rw [hc] at hrun; cases hrun
                    | true =>
                      rw [hc] at hrun
                      simp only [Bool.and_eq_true] at hc
                      obtain ⟨⟨⟨⟨c1, c2⟩, c3⟩, c4⟩, c5⟩ := hc
                      obtain ⟨b, hst, hany⟩ := make_any c1 hao
                      have hget : st'.heap.get st.next = some b := by rw [hst]; show (st.heap.set st.next b).get st.next = some b; rw [T.get_set, if_pos rfl]
                      unfold newOk at c4
                      rw [hget] at c4
                      simp only [Bool.and_eq_true] at c4
                      have hgne : ∀ j, g j ≠ some st.next := fun j q => Nat.lt_irrefl _ (h.gl j _ q)
                      refine IHr (fun j => if j = i then some st.next else g j) ((i, o) :: D) _ st' tm' listed ρ a w (hlen o) hR' ?_ (h.take hP hR hoi he hp (fun hdv => ?_) (fun j hj => if_neg hj) (fun _ q => List.mem_cons_of_mem _ q) ?_ ?_ ?_ ?_ ?_) hs ?_ hrun
                      · intro j id q hgid
                        by_cases e : j = i
                        · simp only [if_pos e] at q
                          cases q
                          exact Nat.lt_irrefl _ (Nat.lt_of_lt_of_le (hgh _ hgid) hf.next)
                        · simp only [if_neg e] at q
                          exact hg0 j id q hgid
                      · refine .inr ⟨(wanted_same (hself hp)).trans hw, v, hdv, .inr (.inr ⟨st.next, b, if_pos rfl, ⟨⟨i, o, v, some st.next⟩, List.mem_cons_self .., rfl, rfl⟩, hget, blt_lt c4.1, Nat.eq_of_beq_eq_true c4.2, Nat.le_of_ble_eq_true c3, (opsLt_same (hself hp)).trans c2, ?_⟩)⟩
                        exact (aop_congr hok hA).trans (hany ⟨.leaf, st.next, 0, .leaf⟩ rfl)
                      · intro p hpm hpid hpl _ _ _
                        exact loadOk_at (List.all_eq_true.1 c5 p hpm) hpid rfl hpl
                      · intro id hid
                        rw [hst]
                        show (st.heap.set st.next b).get id = _
                        rw [T.get_set, if_neg (by omega)]
                      · intro j k id q1 q2
                        by_cases e1 : j = i <;> by_cases e2 : k = i
                        · rw [e1, e2]
                        · simp only [if_pos e1] at q1; simp only [if_neg e2] at q2; cases q1; exact absurd q2 (hgne k)
                        · simp only [if_neg e1] at q1; simp only [if_pos e2] at q2; cases q2; exact absurd q1 (hgne j)
                        · simp only [if_neg e1] at q1; simp only [if_neg e2] at q2; exact h.gi j k id q1 q2
                      · intro j id q
                        rw [hst]
                        show id < st.next + 1
                        by_cases e : j = i
                        · simp only [if_pos e] at q; cases q; exact Nat.lt_succ_self _
                        · simp only [if_neg e] at q; exact Nat.lt_succ_of_lt (h.gl j id q)
                      · rw [hst]
                        refine (h.rel.ghost b).gh_mono fun k q => ?_
                        rcases q with q | ⟨y, hy, q⟩
                        · exact .inl (.inl q)
                        · by_cases e : y.1 = i
                          · simp only [if_pos e] at q; cases q; exact .inr rfl
                          · simp only [if_neg e] at q
                            rcases List.mem_cons.1 hy with rfl | hy
                            · exact absurd rfl e
                            · exact .inl (.inr ⟨y, hy, q⟩)
                      · refine hf.trans ?_
                        rw [hst]
                        refine ⟨Nat.le_succ _, Nat.le_refl _, fun id _ hid => ?_, fun _ _ _ => rfl⟩
                        show (st.heap.set st.next b).get id = _
                        rw [T.get_set, if_neg (by omega)]
              | _ => rw [hao] at hrun; cases hrun
/-- a region that draws, by its plan -/
theorem regPlan_sound (hm : P.follows .mixedOrders = true) : RegSound P (regPlan P) := by
  intro ex hexA w0 ro id ops N st tm st' tm' e roR ρ a w hRR h ht
  unfold regPlan at e
  cases hp : (planB P ops (planOf P ops) && Nat.ble (planOf P ops).length ops.size) with
  | false => rw [hp] at e; cases e
  | true =>
    rw [hp] at e
    simp only [cond_true] at e
    rw [Bool.and_eq_true] at hp
    obtain ⟨hP, hR, hall⟩ := pairs_of hp.1
    obtain ⟨w00, gh0⟩ := w0
    have hlen := Nat.le_of_ble_eq_true hp.2
    refine wpIn_region_any hm ?_
    refine sim hRR hP hexA (fun id q => (h.gho id q).2) ops.size (planOf P ops) (fun _ => none) [] [] st tm _ ρ a _ (by simpa using hlen) hR (fun i id q => by cases q) ?_ (Sub.refl _) (Fr.refl _) e
    refine ⟨fun y hy => (by cases hy), fun y hy => (by cases hy), fun i hi => ?_, by simp, fun y hy => (by cases hy), List.Pairwise.nil, fun y hy => (by cases hy), fun y hy => (by cases hy), fun i j id q => (by cases q), fun i id q => (by cases q), fun _ _ => rfl, ?_, ht⟩
    · constructor
      · exact fun _ => .inl (hall i hi)
      · intro _; simp [hi]
    · exact (Rel.drew h).gh_mono fun k q => by rcases q with q | ⟨y, hy, _⟩; exact q; cases hy
end

section
variable {P : Program}
/-- a call, evaluated, from tables: blocks 0 to 3 stand for unknown bytes, block g + 4 for package-level variable g -/
noncomputable def runC (P : Program) (fuel : Nat) (H : T Blk) (f : FuncId) (args : List Value) : Rs (Value × St) := doCall P (exec P (regPlan P) fuel) f args ⟨H, 204, 204, .leaf⟩
def valOf : Rs (Value × St) → Option Value
  | .ok (v, _) => bif grd 3 v then some v else none
  | .err _ _ => none
/-- the bytes and the variables -/
def ren0 (bs : List Nat) : Ren := fun id => if id < 4 then (bs[id]?).map fun n => ⟨n, 0, 0⟩ else if id < 204 then some ⟨id - 4, 0, 0⟩ else none
theorem ren0_glob (bs : List Nat) : Glob (ren0 bs) := by
  intro g hg
  unfold ren0
  rw [if_neg (by omega), if_pos (by omega)]
  congr 1
/-- the tables hold what H says -/
def Tabled (H : T Blk) (w : World) : Prop := ∀ id b, H.get id = some b → 4 ≤ id ∧ id < 204 ∧ ∃ cs fr, BR ⟨w, fun _ => False⟩ w (ren0 []) b ⟨id - 4, 0, 0⟩ cs fr
theorem calls_of_run' (hm : P.follows .mixedOrders = true) {fuel : Nat} {H : T Blk} {f : FuncId} {bs : List Nat} {args us : List Value} {v : Value} {w : World} (hT : Tabled H w) (hg : LR (ren0 bs) args us) (e : valOf (runC P fuel H f args) = some v) :
    Calls P f us.toArray w (fun en w' => en = .returned v ∧ Below w.heap.size w w') := by
  have hsub : Sub (ren0 []) (ren0 bs) := by
    intro id t h
    unfold ren0 at h ⊢
    by_cases q : id < 4
    · rw [if_pos q] at h; simp at h
    · rw [if_neg q] at h ⊢; exact h
  have hrel : Rel ⟨w, fun _ => False⟩ (ren0 bs) ⟨H, 204, 204, .leaf⟩ w := by
    refine ⟨Below.refl _ _, fun id hid => ⟨?_, ?_⟩, fun id b t hb ht => ?_, fun i j a b s t hi hj hs ht e => ?_, fun _ q => q.elim, fun _ _ _ q => (by simp [T.get_leaf] at q), fun _ _ => T.get_leaf _, fun _ _ _ _ _ _ q => (by simp [T.get_leaf] at q), fun _ _ _ _ q => (by simp [T.get_leaf] at q)⟩
    · have hid' : 204 ≤ id := hid
      unfold ren0; rw [if_neg (by omega), if_neg (by omega)]
    · have hid' : 204 ≤ id := hid
      show H.get id = none
      cases hg : H.get id with
      | none => rfl
      | some b => have := hT id b hg; omega
    · obtain ⟨h1, h2, cs, fr, B⟩ := hT id b hb
      have : t = ⟨id - 4, 0, 0⟩ := by
        unfold ren0 at ht
        rw [if_neg (by omega), if_pos h2] at ht
        cases ht; rfl
      subst this
      exact ⟨cs, fr, B.mono hsub⟩
    · obtain ⟨h1, h2, _⟩ := hT i a hi
      obtain ⟨h3, h4, _⟩ := hT j b hj
      unfold ren0 at hs ht
      rw [if_neg (by omega), if_pos h2] at hs
      rw [if_neg (by omega), if_pos h4] at ht
      cases hs; cases ht
      simp only at e; omega
  cases hr : runC P fuel H f args with
  | err o g => rw [hr] at e; cases e
  | ok r =>
    obtain ⟨y, s1⟩ := r
    rw [hr] at e
    simp only [valOf] at e
    cases hgy : grd 3 y with
    | false => rw [hgy] at e; cases e
    | true =>
      rw [hgy] at e
      cases e
      refine (doCall_sound (exec_sound (regPlan_sound hm) fuel _) hr hrel (ren0_glob bs) (us := us.toArray) (by simpa using hg)).mono ?_
      rintro en w' ⟨ρ', u, rfl, _, h2, h3, _⟩
      rw [VR.eq_of_grd hgy h2]
      exact ⟨rfl, h3.below⟩
theorem tabled_leaf (w : World) : Tabled .leaf w := fun id b hb => (by simp [T.get_leaf] at hb)
theorem calls_of_run (hm : P.follows .mixedOrders = true) {fuel : Nat} {f : FuncId} {args : List Value} (hg : args.all (grd 3) = true) {v : Value} (e : valOf (runC P fuel .leaf f args) = some v) (w : World) :
    Calls P f args.toArray w (fun en w' => en = .returned v ∧ Below w.heap.size w w') :=
  calls_of_run' hm (bs := []) (tabled_leaf w) ⟨rfl, fun i x z hx hz => by
    rw [hx] at hz; cases hz
    exact VR.refl _ 3 _ (List.all_eq_true.1 hg x (List.mem_of_getElem? hx))⟩ e
/-- the sign of byte i of which the remainder r at the modulus m is known -/
def symOf (i m r : Nat) : Value := .chan (some (i + 8 * m + 8192 * r))
theorem sym_vr {bs : List Nat} {i m r n : Nat} (hi : i < 4) (hm : m < 1024) (hb : bs[i]? = some n) (hr : n % m = r) (hn : n < 256) : VR (ren0 bs) (symOf i m r) (.int .u8 (n : Int)) := by
  obtain ⟨t, h, rfl⟩ : ∃ t : Tgt, ren0 bs i = some t ∧ t.blk = n := ⟨⟨n, 0, 0⟩, by unfold ren0; rw [if_pos hi, hb]; rfl, rfl⟩
  generalize ren0 bs = ρ at h ⊢
  have h1 : (i + 8 * m + 8192 * r) % 4 = i := by omega
  have h2 : (i + 8 * m + 8192 * r) / 8 % 1024 = m := by omega
  have h3 : (i + 8 * m + 8192 * r) / 8192 = r := by omega
  have := VR.sym (ρ := ρ) (c := i + 8 * m + 8192 * r) (t := t) (by rw [h1]; exact h) (by rw [h2, h3]; exact hr) hn
  have q : symK (i + 8 * m + 8192 * r) = .u8 := by unfold symK; rw [if_pos (by omega)]
  rwa [q] at this
end

section
variable {P : Program} {w : World}
noncomputable def flatL (P : Program) (F : TypeId → DataW Unit → Option (List Value)) : List (Nat × TypeId) → Nat → List (DataW Unit) → Option (List Value)
  | [], _, [] => some []
  | (off, t) :: l, o, d :: ds => bif Nat.beq off o then
      (match F t d with
      | some vs => bif Nat.beq vs.length (P.cellsOf t) then (match flatL P F l (o + vs.length) ds with | some us => some (vs ++ us) | none => none) else none
      | none => none) else none
  | _, _, _ => none
/-- the cells of a datum of numbers and strings, or of structs and arrays of such without gaps -/
noncomputable def flatD (P : Program) : Nat → TypeId → DataW Unit → Option (List Value)
  | 0, _, _ => none
  | f + 1, t, d => match P.underlying t with
    | some (.int k) => (match d with | .lit (.int _ n) => some [.int k n] | _ => none)
    | some .string => (match d with | .lit (.string bs) => some [.string ⟨⟨bs⟩⟩] | _ => none)
    | some (.struct fs) => (match d with
      | .agg ds => (match flatL P (flatD P f) (fs.toList.map fun x => (x.offset, x.type)) 0 ds with | some vs => bif Nat.beq vs.length (P.cellsOf t) then some vs else none | none => none)
      | _ => none)
    | some (.array n e) => (match d with
      | .agg ds => (match flatL P (flatD P f) ((List.range n).map fun i => (i * P.cellsOf e, e)) 0 ds with | some vs => bif Nat.beq vs.length (P.cellsOf t) then some vs else none | none => none)
      | _ => none)
    | _ => none
theorem flatL_ok {F : TypeId → DataW Unit → Option (List Value)} {cs : List Value} {G : TypeId → List Value → DataW Unit → Prop}
    (IH : ∀ t d cs vs, F t d = some vs → G t cs d → cs = vs) : ∀ (pl : List (Nat × TypeId)) (o : Nat) (ds : List (DataW Unit)) (vs : List Value), flatL P F pl o ds = some vs →
    (∀ (i off : Nat) (t : TypeId), pl[i]? = some (off, t) → ∃ d, ds[i]? = some d ∧ G t ((cs.drop off).take (P.cellsOf t)) d) → (cs.drop o).take vs.length = vs
  | [], o, [], vs, h, _ => by
    unfold flatL at h; cases h; simp
  | [], o, d :: ds, vs, h, _ => by unfold flatL at h; cases h
  | (off, t) :: l, o, [], vs, h, _ => by unfold flatL at h; cases h
  | (off, t) :: l, o, d :: ds, vs, h, hG => by
    unfold flatL at h
    cases ho : Nat.beq off o with
    | false => rw [ho] at h; cases h
    | true =>
      have hoo := Nat.eq_of_beq_eq_true ho
      subst hoo
      rw [ho] at h
      simp only [cond_true] at h
      cases hF : F t d with
      | none => rw [hF] at h; cases h
      | some v1 =>
        rw [hF] at h
        simp only at h
        cases hl : Nat.beq v1.length (P.cellsOf t) with
        | false => rw [hl] at h; cases h
        | true =>
          rw [hl] at h
          simp only [cond_true] at h
          cases hr : flatL P F l (off + v1.length) ds with
          | none => rw [hr] at h; cases h
          | some us =>
            rw [hr] at h
            cases h
            obtain ⟨d', hd', hg⟩ := hG 0 off t rfl
            cases hd'
            have e1 := IH t d _ v1 hF hg
            have e2 := flatL_ok IH l (off + v1.length) ds us hr fun i off' t' hi => hG (i + 1) off' t' (by simpa using hi)
            rw [← Nat.eq_of_beq_eq_true hl] at e1
            rw [List.length_append, List.take_add, e1, List.drop_drop, e2]
theorem flat_of_trod {enc : TypeId × Value → Unit} {base : Nat} {sp : Nat → Bool} {held : Bool} : ∀ (f : Nat) (t : TypeId) (d : DataW Unit) (cs vs : List Value), flatD P f t d = some vs →
    (∃ m p, DataW.trod enc P w base sp held m t cs = some (d, p)) → cs = vs := by
  intro f
  induction f with
  | zero => intro t d cs vs h; cases h
  | succ f ih =>
    intro t d cs vs h ⟨m, p, ht⟩
    unfold flatD at h
    cases hu : P.underlying t with
    | none => rw [hu] at h; cases h
    | some td =>
      rw [hu] at h
      cases td <;> (try (cases h; done))
      case int k =>
        obtain ⟨n, rfl, hx, _⟩ := DataW.trod_int hu ht
        cases hx
        simp only at h
        cases h; rfl
      case string =>
        obtain ⟨s, rfl, hx, _⟩ := DataW.trod_string hu ht
        cases hx
        simp only at h
        cases h; rfl
      case struct fs =>
        obtain ⟨xs, n, rfl, hx, hlen, hxl, hall⟩ := DataW.trod_struct hu ht
        cases hx
        simp only at h
        cases hr : flatL P (flatD P f) (fs.toList.map fun x => (x.offset, x.type)) 0 (xs.map (·.1)) with
        | none => rw [hr] at h; cases h
        | some us =>
          rw [hr] at h
          simp only at h
          cases hl : Nat.beq us.length (P.cellsOf t) with
          | false => rw [hl] at h; cases h
          | true =>
            rw [hl] at h
            cases h
            have := flatL_ok (cs := cs) (G := fun t cs d => ∃ m p, DataW.trod enc P w base sp held m t cs = some (d, p)) (fun t d cs vs a b => ih t d cs vs a b) _ _ _ _ hr fun i off t' hi => by
              rw [List.getElem?_map] at hi
              cases hfi : fs.toList[i]? with
              | none => rw [hfi] at hi; cases hi
              | some fd =>
                rw [hfi] at hi
                cases hi
                have hfi' : fs[i]? = some fd := by rw [← Array.getElem?_toList]; exact hfi
                have hlt : i < xs.length := by rw [hxl]; exact (Array.getElem?_eq_some_iff.1 hfi').1
                have := hall i fd hfi'
                rw [List.getElem?_eq_getElem hlt] at this
                exact ⟨xs[i].1, by rw [List.getElem?_map, List.getElem?_eq_getElem hlt]; rfl, n, xs[i].2, this⟩
            rw [List.drop_zero, Nat.eq_of_beq_eq_true hl, ← hlen, List.take_length] at this
            exact this
      case array k e =>
        obtain ⟨xs, n, rfl, hx, hlen, hxl, hall⟩ := DataW.trod_array hu ht
        cases hx
        simp only at h
        cases hr : flatL P (flatD P f) ((List.range k).map fun i => (i * P.cellsOf e, e)) 0 (xs.map (·.1)) with
        | none => rw [hr] at h; cases h
        | some us =>
          rw [hr] at h
          simp only at h
          cases hl : Nat.beq us.length (P.cellsOf t) with
          | false => rw [hl] at h; cases h
          | true =>
            rw [hl] at h
            cases h
            have := flatL_ok (cs := cs) (G := fun t cs d => ∃ m p, DataW.trod enc P w base sp held m t cs = some (d, p)) (fun t d cs vs a b => ih t d cs vs a b) _ _ _ _ hr fun i off t' hi => by
              rw [List.getElem?_map] at hi
              cases hfi : (List.range k)[i]? with
              | none => rw [hfi] at hi; cases hi
              | some j =>
                rw [hfi] at hi
                cases hi
                obtain ⟨hik, hij⟩ := List.getElem?_eq_some_iff.1 hfi
                rw [List.length_range] at hik
                rw [List.getElem_range] at hij
                subst hij
                have hlt : i < xs.length := by rw [hxl]; exact hik
                have := hall i hik
                rw [List.getElem?_eq_getElem hlt] at this
                exact ⟨xs[i].1, by rw [List.getElem?_map, List.getElem?_eq_getElem hlt]; rfl, n, xs[i].2, this⟩
            rw [List.drop_zero, Nat.eq_of_beq_eq_true hl, ← hlen, List.take_length] at this
            exact this
/-- a table for a variable -/
noncomputable def tabB (l : List Value) : Blk := ⟨putCells l .leaf 0, l.length, 0, 1, true, l.length⟩
theorem var_of_laid {l : List (String × DataW Unit)} (h : laidMet P l w) {nm : String} {d : DataW Unit} (hm : (nm, d) ∈ l) {g : Nat} {t : TypeId} (hg : P.globalNamed nm = some g) (ht : (P.globals[g]?).map (·.type) = some t) {f : Nat} {vs : List Value} (hv : flatD P f t d = some vs) :
    ∃ ty fr, w.heap[g]? = some (.cells vs.toArray ty fr) := by
  obtain ⟨ps, hl, hx1, hx2⟩ := h
  clear hx1 hx2
  induction l generalizing ps with
  | nil => cases hm
  | cons x r ih =>
    obtain ⟨n, d'⟩ := x
    obtain ⟨g', t', cs, fuel, p, q, h1, h2, h3, h4, h5, _⟩ := hl
    rcases List.mem_cons.1 hm with e | hm
    · cases e
      rw [hg] at h1; cases h1
      rw [ht] at h2; cases h2
      have e := flat_of_trod f t d cs.toList vs hv ⟨fuel, p, h4⟩
      unfold World.var? at h3
      rw [hg] at h3
      simp only [Option.bind_some] at h3
      cases hh : w.heap[g]? with
      | none => rw [hh] at h3; cases h3
      | some o =>
        rw [hh] at h3
        cases o <;> (try (cases h3; done))
        rename_i c ty fr
        cases h3
        exact ⟨ty, fr, by rw [← e]⟩
    · exact ih hm q h5
theorem tabled_set {H : T Blk} (hH : Tabled H w) {g : Nat} (hg : g < 200) {l : List Value} (hl : l.all (grd 3) = true) (hpos : 0 < l.length) {ty : TypeId} {fr : Nat × Nat} (hw : w.heap[g]? = some (.cells l.toArray ty fr)) :
    Tabled (H.set (g + 4) (tabB l)) w := by
  intro id b hb
  rw [T.get_set] at hb
  by_cases q : id = g + 4
  · rw [if_pos q] at hb
    cases hb
    subst q
    refine ⟨by omega, by omega, l.toArray, (fr, ty), ?_⟩
    have hLR : LR (ren0 []) l l := ⟨rfl, fun i x z hx hz => by rw [hx] at hz; cases hz; exact VR.refl _ 3 _ (List.all_eq_true.1 hl x (List.mem_of_getElem? hx))⟩
    refine ⟨.inr ⟨Nat.le_refl _, rfl⟩, by simpa using hw, fun i hi => ?_, fun _ => (by simp [tabB]), fun h => (by cases h), fun i h1 h2 => ?_, fun h => (by cases h), fun _ h => ?_⟩
    · obtain ⟨v, c, a1, a2, a3⟩ := hLR.at0 i hi
      exact ⟨v, c, a1, a2, by simpa using a3⟩
    · have h1' : l.length ≤ i := h1
      simp only [Nat.zero_add, List.size_toArray] at h2
      omega
    · have h' : l.length = 0 := h
      omega
  · rw [if_neg q] at hb
    exact hH id b hb
end
end Go.Proofs.YtaambeficfiacaaGreatDoor.Ev
