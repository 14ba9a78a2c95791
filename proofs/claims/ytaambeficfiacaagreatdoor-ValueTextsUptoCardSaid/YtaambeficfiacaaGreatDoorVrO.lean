/- The reference's Bool; a new block of bytes made a string. No conditions. -/
import Derived.Test.YtaambeficfiacaaGreatDoorVrN
namespace Go.Proofs.YtaambeficfiacaaGreatDoor
open Go.RowKit VM

theorem new_bytes (w : World) (cs : Array Value) (l : List UInt8) (h : cs.toList = bCells l) (q : Nat) (hq : q < l.length) : (w.alloc (.cells cs 5)).cell? ((⟨w.heap.size, 0, none⟩ : Addr).add q) = some (.int .u8 (l[q].toNat : Int)) := by
  rw [add_at, Nat.zero_add, (Blk.new w _ _).cell]
  have : cs.toList[q]? = some (.int .u8 (l[q].toNat : Int)) := by
    rw [h]
    unfold bCells
    rw [List.getElem?_map, List.getElem?_eq_getElem hq]; rfl
  simpa using this
theorem conv_str (w : World) (cs : Array Value) (l : List UInt8) (h : cs.toList = bCells l) (n c : Nat) (hn : l.length = n) : Sem.run Tryz.prog (convert 48 9 (.slice (some ⟨w.heap.size, 0, none⟩) n c)) (w.alloc (.cells cs 5)) = .ok (.string ⟨l.toArray⟩) (w.alloc (.cells cs 5)) := by
  subst hn
  exact run_convert_bytes_back (P := Tryz.prog) (w.alloc (.cells cs 5)) 48 9 5 ⟨w.heap.size, 0, none⟩ c l Tryz.underlying48 Tryz.underlying5 Tryz.underlying9 (new_bytes w cs l h)
theorem conv_val (w : World) (cs : Array Value) (l : List UInt8) (h : cs.toList = bCells l) (n c : Nat) (hn : l.length = n) : Sem.run Tryz.prog (convert 48 22 (.slice (some ⟨w.heap.size, 0, none⟩) n c)) (w.alloc (.cells cs 5)) = .ok (.string ⟨l.toArray⟩) (w.alloc (.cells cs 5)) := by
  subst hn
  exact run_convert_bytes_back (P := Tryz.prog) (w.alloc (.cells cs 5)) 48 22 5 ⟨w.heap.size, 0, none⟩ c l Tryz.underlying48 Tryz.underlying5 Tryz.underlying22 (new_bytes w cs l h)
set_option maxRecDepth 100000 in
set_option maxHeartbeats 3200000 in
theorem rbool_any (b : Bool) (w : World) :
    Calls Tryz.prog 10 #[.bool b] w fun e w' => e = .returned (.string ⟨#[2, if b = true then 1 else 0]⟩) ∧ Below w.heap.size w w' := by
  have h1 := conv_val w #[.int .u8 2, .int .u8 1] [2, 1] rfl 2 2 rfl
  have h2 := conv_val w #[.int .u8 2, .int .u8 0] [2, 0] rfl 2 2 rfl
  cases b
  all_goals
    go_enter Tryz.func10, Tryz.ntmps10
    go_wp2_with fail
    go_ret
    exact ⟨rfl, (Below.refl _ _).alloc (Nat.le_refl _) _⟩

end Go.Proofs.YtaambeficfiacaaGreatDoor
