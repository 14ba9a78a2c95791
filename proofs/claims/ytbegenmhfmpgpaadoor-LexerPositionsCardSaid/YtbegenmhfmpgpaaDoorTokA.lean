/- Tokens that lie in a slice. No conditions. -/
import Derived.Test.YtbegenmhfmpgpaaDoorLayK
import Derived.Test.YtbegenmhfmpgpaaDoorLexE
namespace Go.Proofs.YtbegenmhfmpgpaaDoor
open Go.RowKit M

/-- a slice that reads as tokens -/
def InToks (w : World) (A : Option Addr) (ts : List Tok) : Prop :=
  ts = [] ∨ ∃ (b off : Nat), A = some ⟨b, off, none⟩ ∧ b < w.heap.size ∧ ∀ (k : Nat) (t : Tok), ts[k]? = some t → ∀ (j : Nat) (u : Value), (tokCells t)[j]? = some u → w.cell? ⟨b, off + k * 5 + j, none⟩ = some u
theorem InToks.keep {Pr : Nat → Prop} {w w' : World} {A : Option Addr} {ts : List Tok} (h : InToks w A ts) (hk : Keep Pr w w') (hp : ∀ b, b < w.heap.size → Pr b) : InToks w' A ts := by
  rcases h with h | ⟨b, off, rfl, hb, hc⟩
  · exact .inl h
  · exact .inr ⟨b, off, rfl, Nat.lt_of_lt_of_le hb hk.size, fun k t ht j u hu => (hk.cell (hp b hb) _).trans (hc k t ht j u hu)⟩
theorem InToks.below {w w' : World} {A : Option Addr} {ts : List Tok} (h : InToks w A ts) (hb : Below w.heap.size w w') : InToks w' A ts :=
  h.keep (Pr := (· < w.heap.size)) ⟨hb.os, hb.tape, hb.output, hb.size, hb.block⟩ (fun _ q => q)
theorem InToks.alloc {w : World} {A : Option Addr} {ts : List Tok} (h : InToks w A ts) (o : Obj) : InToks (w.alloc o) A ts := h.below ((Below.refl _ _).alloc (Nat.le_refl _) o)
theorem InToks.drewN {w : World} {A : Option Addr} {ts : List Tok} (h : InToks w A ts) (n : Nat) : InToks (w.drewN n) A ts := h
theorem InToks.own {w : World} {b : Nat} {ts : List Tok} {A : Option Addr} {n c : Nat} (h : w.ownsRow b 25 5 (.slice A n c) n (toksCells ts)) (hn : n = ts.length) : InToks w A ts := by
  by_cases h0 : n = 0
  · exact .inl (List.eq_nil_of_length_eq_zero (by omega))
  · obtain ⟨g, c', e, _, hlt, _, hcell⟩ := owns_cell h (by omega)
    injection e with e1 e2 e3
    subst e1
    refine .inr ⟨g, 0, rfl, hlt, fun k t ht j u hu => ?_⟩
    rw [Nat.zero_add]
    exact hcell _ u (toks_at ts k t ht j u hu)

end Go.Proofs.YtbegenmhfmpgpaaDoor
