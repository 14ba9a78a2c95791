/- A drawn region of plain operations (no calls of functions, no defer) within any fence, in a round too, is walked as outside. No conditions. -/
import Derived.OwnWalkIn
import Derived.OrdersIn
import Derived.OrdersHeld
import Derived.Deep.RegionHeld
import Derived.TacticsIn
namespace Go.Proofs.YtkdlmgahkckjbaaGreat
open Go.RowKit

def ResCalm : Result Next → Prop
  | .ok (.value _) _ => True
  | .ok .skip _ => True
  | .halt _ _ => True
  | _ => False
theorem res_v (s : Sem Value) (P : Program) (w : World) : ResCalm ((do pure (Next.value (← s)) : Sem Next).run P w) := by
  simp only [Sem.run_bind]
  cases s.run P w <;> simp [Result.andThen, Sem.run_pure, ResCalm]
theorem res_u (s : Sem Unit) (P : Program) (w : World) : ResCalm ((do s; pure Next.skip : Sem Next).run P w) := by
  simp only [Sem.run_bind]
  cases s.run P w <;> simp [Result.andThen, Sem.run_pure, ResCalm]
structure Calm (P : Program) (o : Oper) : Prop where
  ab : ∀ w ρ, o.about P w ρ = none
  nd : ∀ c, o.op ≠ .defer c
  res : ∀ ρ w, ResCalm ((execOp ρ o).run P w)
/-- operations that call nothing -/
def isCalm : Op → Bool
  | .move _ | .assign _ | .alloc _ | .load .. | .store .. | .binOp .. | .unOp .. | .indexAddr .. | .index .. | .fieldAddr .. | .field .. | .slice .. | .extract .. => true
  | .call c => match c.callee with
    | .builtin .len => true
    | _ => false
  | _ => false
set_option maxHeartbeats 1000000 in
theorem calm_of {P : Program} {o : Oper} (h : isCalm o.op = true) : Calm P o := by
  cases ho : o.op <;> rw [ho] at h <;> first | (simp [isCalm] at h; done) | skip
  case call c =>
    cases hc : c.callee with
    | builtin b =>
      cases b <;> first | (simp [isCalm, hc] at h; done) | skip
      refine ⟨fun w ρ => ?_, fun c e => (by rw [ho] at e; cases e), fun ρ w => ?_⟩
      · simp [Oper.about, ho, resolve, hc, Sem.run_pure, Target.leads]
      · simp only [execOp, ho, resolve, hc, invoke, builtin, Sem.run_bind, Sem.run_pure, Result.andThen]
        cases (Builtin.len_ c.argTypes o.type (Array.map ρ c.args)).run P w <;> trivial
    | _ => simp [isCalm, hc] at h
  all_goals
    refine ⟨fun w ρ => by simp [Oper.about, ho], fun c e => (by rw [ho] at e; cases e), fun ρ w => ?_⟩
    first
      | (simp only [execOp, ho]; exact res_v _ P w)
      | (simp only [execOp, ho]; exact res_u _ P w)
      | (simp [execOp, ho, Sem.run_pure, ResCalm]; done)
def OnlyN (Q : Exit → Act → World → Prop) : Exit → Act → World → Prop
  | .normal, a, w => Q .normal a w
  | _, _, _ => False

theorem OnlyN.normal {Q : Exit → Act → World → Prop} {a : Act} {w : World} (h : Q .normal a w) : OnlyN Q .normal a w := h
section
variable {F : Fence} {n : Nat} {P : Program} {ops : Array Oper} {Q : Exit → Act → World → Prop} {md : Region.Mode} {S : World → Prop}
theorem Calm.wpIn {o : Oper} (hc : Calm P o) {a : Act} {w : World} {K : Act → World → Prop} (h : o.wp P a w K Q) : o.wpIn F n P a w K Q := by
  unfold Oper.wpIn
  refine ⟨fun f hf => (by rw [hc.ab] at hf; cases hf), ?_⟩
  rw [Oper.semAt_plain F _ _ hc.nd]
  unfold Oper.wp at h
  have hr := hc.res a.eval w
  generalize (execOp a.eval o).run P w = r at *
  cases r with
  | ok x w' => cases x <;> first | exact h | exact hr.elim
  | halt x w' => cases x <;> exact h
theorem wpOpIn_calm (hc : ∀ (i : Nat) (o : Oper), ops[i]? = some o → Calm P o) (hL : ¬ LetsOut Q) {i : Nat} {K : Act → World → Prop} {a : Act} {w : World} (h : wpOp P ops Q i K a w) : wpOpIn F n P ops Q i K a w := by
  unfold wpOp at h
  unfold wpOpIn
  cases ho : ops[i]? with
  | none => rw [ho] at h; exact h
  | some o =>
    rw [ho] at h
    simp only at h ⊢
    have hk := hc i o ho
    split
    · rename_i hw
      rw [if_pos hw] at h
      rcases h with h | h
      · exact hk.wpIn h
      · exact absurd h.2 hL
    · rename_i hw
      rw [if_neg hw] at h
      exact ⟨fun f hf => (by rw [hk.ab] at hf; cases hf), h⟩
theorem wpAnyIn_calm (hc : ∀ (i : Nat) (o : Oper), ops[i]? = some o → Calm P o) (hL : ¬ LetsOut Q) : ∀ (fuel : Nat) (listed : Array Bool) (a : Act) (w : World), wpAny P md ops Q fuel listed a w → wpAnyIn F n P md ops Q fuel listed a w
  | 0, _, _, _, h => h
  | fuel + 1, _, _, _, h => ⟨h.1, fun i hi => wpOpIn_mono (fun a' w' q => wpAnyIn_calm hc hL fuel _ a' w' q) (wpOpIn_calm hc hL (h.2 i hi))⟩
/-- a drawn region of calm operations, walked by the plain rules -/
theorem wpIn_region_calm {id : Nat} {a : Act} {w : World} (hm : P.follows .mixedOrders = true) (hc : (ops.toList.all fun o => isCalm o.op) = true) (hS : S w.drew)
    (h : S w.drew → wpAnyH P .any ops (OnlyN Q) S ops.size (Array.replicate ops.size false) a w.drew) : (Code.region id ops true).wpIn F n P Q a w := by
  refine wpIn_mono (Q := OnlyN Q) (wpIn_region_any hm (wpAnyIn_calm (fun i o ho => calm_of ?_) ?_ _ _ _ _ (wpAny_of_held _ _ _ _ (h hS)))) ?_
  · have := List.all_eq_true.1 hc o (by rw [← Array.getElem?_toList] at ho; exact List.mem_of_getElem? ho)
    exact this
  · rintro ⟨a, w, q⟩; exact q
  · intro e a w q
    cases e <;> first | exact q | exact q.elim
end

end Go.Proofs.YtkdlmgahkckjbaaGreat
