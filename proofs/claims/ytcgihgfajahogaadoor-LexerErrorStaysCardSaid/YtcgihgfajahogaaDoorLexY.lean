/- LexerSymbols: the symbols are returned in the document's order, by the program as by the reference. No conditions but the row's own. -/
import Derived.Test.YtcgihgfajahogaaDoorLexA
import Derived.Deep.QuietTactic
import Derived.BigQuiet
namespace Go.Proofs.YtcgihgfajahogaaDoor
open Go.RowKit M

/-- a block of strings -/
def strBlock (ls : List Bs) : Obj := .cells (ls.map fun p => Value.string (S p)).toArray 9 (0, 0)

set_option maxHeartbeats 400000 in
theorem symbols_lex (w : World) :
    Calls Tryd.prog 24 #[] w fun e w' => e = .returned (.slice (some ⟨w.heap.size, 0, none⟩) 59 59) ∧ w.alloc (strBlock symbolsL) = w' := by
  go_enter Tryd.func24, Tryd.ntmps24
  go_wp2
  go_ret
  exact ⟨rfl, rfl⟩

set_option maxHeartbeats 400000 in
theorem symbols_ref (w : World) :
    Calls Tryd.prog 25 #[] w fun e w' => e = .returned (.slice (some ⟨w.heap.size, 0, none⟩) 59 59) ∧ w.alloc (strBlock symbolsL) = w' := by
  go_enter Tryd.func25, Tryd.ntmps25
  go_wp2
  go_ret
  exact ⟨rfl, rfl⟩

theorem str_cell {w : World} {b : Nat} {ls : List Bs} (h : w.heap[b]? = some (strBlock ls)) (k : Nat) (hk : k < ls.length) : w.cell? ⟨b, k, none⟩ = some (.string (S (ls.getD k []))) := by
  rw [cell_of_row w b k _ _ _ h]; simp [hk]

set_option maxHeartbeats 1000000 in
theorem equal_strings (ls : List Bs) (n : Nat) (hn : n = ls.length) (hm : n ≤ 100000) (a b : Nat) (w : World) (ha : w.heap[a]? = some (strBlock ls)) (hb : w.heap[b]? = some (strBlock ls)) :
    Calls Tryd.prog 23 #[.slice (some ⟨a, 0, none⟩) n n, .slice (some ⟨b, 0, none⟩) n n] w fun e w' => e = .returned (.bool true) ∧ ∃ m, w' = w.drewN m := by
  have HA := Lib.hid (fun k => str_cell ha k)
  have HB := Lib.hid (fun k => str_cell hb k)
  have HN := Lib.hid hn
  clear ha hb hn
  go_enter Tryd.func23, Tryd.ntmps23
  go_wp2
  go_loopw [5] (fun t wr => ∃ k : Nat, k ≤ n ∧ t = .int .i64 k ∧ Hid (∃ m, wr = w.drewN m)) (fun t _ => n - (intOf t).toNat)
  case atStart => exact ⟨0, by omega, rfl, 0, rfl⟩
  case round =>
    obtain ⟨k, hk, rfl, hW⟩ := hrel
    obtain ⟨m, rfl⟩ := hW
    by_cases hlt : k < n
    · have c1 := HA.out k (by rw [← HN.out]; exact hlt)
      have c2 := HB.out k (by rw [← HN.out]; exact hlt)
      go_wp2
      go_quiet (fail)
      go_wp2
      go_roundw
      case rel => exact ⟨k + 1, by omega, by go_num, _, rfl⟩
      case measure => simp [intOf]; omega
    · go_wp2
      go_ret
      exact ⟨rfl, m, rfl⟩

set_option maxHeartbeats 400000 in
theorem lexerSymbols_any (w : World) (hr : RangeVar w) :
    Calls Tryd.prog 6 #[] w fun e w' => e = .returned (.bool true) ∧ Below w.heap.size w w' := by
  have HR := Lib.hid hr
  clear hr
  go_enter Tryd.func6, Tryd.ntmps6
  go_wp2_with fail
  refine (awake_any _ HR.out).mono ?_
  rintro e w1 ⟨rfl, hb1⟩
  have HB1 := Lib.hid hb1
  clear hb1
  go_wp2_with fail
  refine (symbols_lex _).mono ?_
  rintro e w2 ⟨rfl, hw2⟩
  have HW2 := Lib.hid hw2
  clear hw2
  go_wp2_with fail
  refine (symbols_ref _).mono ?_
  rintro e w3 ⟨rfl, hw3⟩
  have HW3 := Lib.hid hw3
  clear hw3
  have h1 : w3.heap[w1.heap.size]? = some (strBlock symbolsL) := by
    rw [← HW3.out, ← HW2.out, Below.heap_alloc _ _ _ (by simp)]; exact heap_alloc_new _ _
  have h2 : w3.heap[w2.heap.size]? = some (strBlock symbolsL) := by
    rw [← HW3.out]; exact heap_alloc_new _ _
  have HE := Lib.hid (equal_strings symbolsL 59 rfl (by decide) w1.heap.size w2.heap.size w3 h1 h2)
  clear h1 h2
  go_wp2_with fail
  refine HE.out.mono ?_
  rintro e w4 ⟨rfl, m, rfl⟩
  go_wp2
  go_ret
  refine ⟨rfl, ?_⟩
  rw [← HW3.out, ← HW2.out]
  have h := (HB1.out.alloc HB1.out.size (strBlock symbolsL)).alloc (Nat.le_trans HB1.out.size (by simp)) (strBlock symbolsL)
  exact ⟨h.os, h.tape, h.output, h.size, h.block⟩

end Go.Proofs.YtcgihgfajahogaaDoor
