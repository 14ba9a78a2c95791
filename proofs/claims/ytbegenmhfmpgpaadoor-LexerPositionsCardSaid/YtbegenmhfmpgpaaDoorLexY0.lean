/- A block of strings, a row's cells, and what the reference's Symbols returns. No conditions. -/
import Derived.Test.YtbegenmhfmpgpaaDoorLexW9
import Derived.KernelRfl
import Derived.Deep.QuietTactic
import Derived.BigQuiet
namespace Go.Proofs.YtbegenmhfmpgpaaDoor
open Go.RowKit M

theorem owns_cell {w : World} {b : Nat} {e : TypeId} {z : Nat} {v : Value} {n : Nat} {xs : List Value} (h : w.ownsRow b e z v n xs) (hn : 0 < n) :
    ∃ g c, v = .slice (some ⟨g, 0, none⟩) n c ∧ b ≤ g ∧ g < w.heap.size ∧ n ≤ c ∧ ∀ j u, xs[j]? = some u → w.cell? ⟨g, j, none⟩ = some u := by
  rcases h.2 with ⟨_, rfl⟩ | ⟨g, cap, cur, rfl, hb, hh, hc, _⟩
  · omega
  · refine ⟨g, cap, rfl, hb, lt_of_some hh, hc, fun j u hu => ?_⟩
    have := h.cells (g := g) rfl j u hu
    have ha : (⟨g, 0, none⟩ : Addr).add j = ⟨g, j, none⟩ := by unfold Addr.add; split <;> simp_all
    rwa [ha] at this

/-- a block of strings -/
def strBlock (ls : List Bs) : Obj := .cells (ls.map fun p => Value.string (S p)).toArray 9 (0, 0)

set_option maxHeartbeats 400000 in
theorem symbols_ref (w : World) :
    Calls Tryd.prog 30 #[] w fun e w' => e = .returned (.slice (some ⟨w.heap.size, 0, none⟩) 59 59) ∧ w.alloc (strBlock symbolsL) = w' := by
  go_enter Tryd.func30, Tryd.ntmps30
  go_wp2
  go_ret
  exact ⟨rfl, rfl⟩

theorem str_cell {w : World} {b : Nat} {ls : List Bs} (h : w.heap[b]? = some (strBlock ls)) (k : Nat) (hk : k < ls.length) : w.cell? ⟨b, k, none⟩ = some (.string (S (ls.getD k []))) := by
  rw [cell_of_row w b k _ _ _ h]; simp [hk]

end Go.Proofs.YtbegenmhfmpgpaaDoor
