/- What the reference's Make returns: a type with children, in a row of its own. Condition: at most 16 children of at most 100000 nodes. -/
import Derived.Test.YtcnanbmbdajcaaaDoorTyA
import Derived.Test.YtcnanbmbdajcaaaDoorApp
import Derived.Deep.RegionHeld3
namespace Go.Proofs.YtcnanbmbdajcaaaDoor
open Go.RowKit M

/-- a type in memory: where it lies, its capacity, its nodes -/
abbrev TS := Option Addr × Nat × List TN
abbrev tsV (p : TS) : Value := .slice p.1 p.2.2.length p.2.1
theorem node_info : (Tryd.prog.info? 33).map (fun i => (i.zero, i.size, i.bytes)) = some (some (.agg #[.int .i64 0, .int .i64 0, .int .i64 0]), 3, 24) := by kernel_rfl
theorem nd_one (ts : List TN) : ∀ u ∈ ts.flatMap ndCells, u.oneCell' = true := by
  intro u hu
  obtain ⟨t, _, h⟩ := List.mem_flatMap.1 hu
  simp [ndCells] at h
  rcases h with rfl | rfl | rfl <;> rfl
/-- a call that returns a list of nodes in a row of its own -/
def RowPost (ts : List TN) (w : World) (e : Ending) (w' : World) : Prop :=
  ∃ v, e = .returned v ∧ w'.ownsRow w.heap.size 33 3 v ts.length (ts.flatMap ndCells) ∧ Below w.heap.size w w'

def accT (hd : TN) (ls : List TS) (j : Nat) : List TN := hd :: ((ls.take j).map (·.2.2)).flatten
theorem accT_step {hd : TN} {ls : List TS} {j : Nat} {p : TS} (h : ls[j]? = some p) : accT hd ls (j + 1) = accT hd ls j ++ p.2.2 := by
  unfold accT
  rw [List.take_add_one, h]
  simp
theorem accT_len {hd : TN} {ls : List TS} {L : Nat} (h : ∀ p ∈ ls, p.2.2.length ≤ L) : ∀ j, (accT hd ls j).length ≤ 1 + j * L := by
  intro j
  induction j with
  | zero => simp [accT]
  | succ j ih =>
    rw [Nat.add_mul, Nat.one_mul]
    cases hp : ls[j]? with
    | none =>
      have : ls.take (j + 1) = ls.take j := by rw [List.take_add_one, hp]; simp
      unfold accT at ih ⊢
      rw [this]
      omega
    | some p =>
      rw [accT_step hp, List.length_append]
      have := h p (List.mem_of_getElem? hp)
      omega
theorem accT_all {hd : TN} {ls : List TS} {j : Nat} (h : ls.length ≤ j) : accT hd ls j = hd :: (ls.map (·.2.2)).flatten := by
  unfold accT; rw [List.take_of_length_le h]

set_option maxRecDepth 100000 in
set_option maxHeartbeats 3200000 in
theorem make_any (k num : Int) (w : World) (A : Option Addr) (m c : Nat) (ls : List TS) (hm : m = ls.length) (hm16 : m ≤ 16) (hA : InC w A (ls.map tsV)) (hls : ∀ p ∈ ls, InC w p.1 (p.2.2.flatMap ndCells) ∧ p.2.2.length ≤ 100000) :
    Calls Tryd.prog 26 #[.int .i64 k, .int .i64 num, .slice A m c] w (RowPost (mkT k num (ls.map (·.2.2))) w) := by
  have hmk : mkT k num (ls.map (·.2.2)) = (k, num, (m : Int)) :: (ls.map (·.2.2)).flatten := by unfold mkT; rw [List.length_map, ← hm]
  rw [hmk]
  have HA := hide hA
  have HM := Lib.hid hm
  have HLS := hide hls
  clear hA hm hls hmk
  go_enter Tryd.func26, Tryd.ntmps26
  go_wp2_with fail
  go_loopw [7, 8] (fun v i wr => ∃ j : Nat, i = .int .i64 j ∧ j ≤ m ∧ Hid (wr.ownsRow w.heap.size 33 3 v (accT (k, num, (m : Int)) ls j).length ((accT (k, num, (m : Int)) ls j).flatMap ndCells)) ∧ Hid (Below w.heap.size w wr)) (fun _ i _ => m - (intOf i).toNat)
  case atStart => exact ⟨0, rfl, by omega, World.ownsRow_lit w #[.int .i64 k, .int .i64 num, .int .i64 (m : Int)] 1 (Nat.le_refl _) (by unfold maxLen; omega) rfl, (Below.refl _ _).alloc (Nat.le_refl _) _⟩
  case round =>
    obtain ⟨j, rfl, hj, hO, hB⟩ := hrel
    obtain ⟨A3, c3, rfl⟩ := owns_form hO.out
    by_cases hlt : j < m
    · have hjl : j < ls.length := by rw [← HM.out]; exact hlt
      obtain ⟨p, hp⟩ : ∃ p, ls[j]? = some p := ⟨ls[j], List.getElem?_eq_getElem hjl⟩
      have hstep := Lib.hid (accT_step (hd := (k, num, (m : Int))) hp)
      have hlen := accT_len (hd := (k, num, (m : Int))) (fun p hp => (unhide HLS p hp).2) j
      obtain ⟨hpI, hpl⟩ := unhide HLS p (List.mem_of_getElem? hp)
      have HPI := hide (hpI.below hB.out)
      have hHA := (unhide HA).below hB.out
      rcases hHA with hnil | ⟨b, off, rfl, hb, hcell⟩
      · have : ls.length = 0 := by have := congrArg List.length hnil; simpa using this
        omega
      have x0 := hcell j (tsV p) (by rw [List.getElem?_map, hp]; rfl)
      obtain ⟨pa, pc, pt⟩ := p
      simp only at hpl x0
      obtain ⟨i0, hi0, hiz0, hiz1, hiz2⟩ := info_parts node_info
      have hbz := hB.out.size
      have hpl2 := Lib.hid (flat_len nd_len pt)
      clear hp hpI hcell hjl
      go_wp2_with (at_builtin; refine wpList_app _ rfl _ _ 22 rfl w.heap.size 33 i0 _ 3 24 Tryd.underlying22 hi0 hiz0 hiz1 hiz2 rfl (by decide) _ _ _ rfl hO.out pa pt.length pc (pt.flatMap ndCells) rfl hpl2.out (unhide HPI) (nd_one pt) (by unfold maxLen; omega) (by omega) hbz ?_; intro v5 w5 hown5 hgrow5 hat5)
      have HB5 := hide (below_app hB.out hO.out hgrow5)
      have HO5 : Hid (w5.ownsRow w.heap.size 33 3 v5 (accT (k, num, (m : Int)) ls (j + 1)).length ((accT (k, num, (m : Int)) ls (j + 1)).flatMap ndCells)) := by
        show World.ownsRow _ _ _ _ _ _ _
        rw [hstep.out, List.length_append, List.flatMap_append]
        exact hown5
      clear hown5 hgrow5 hat5
      go_roundw
      case rel => exact ⟨j + 1, by go_num, by omega, HO5, unhide HB5⟩
      case measure => simp [intOf]; omega
    · have hall := Lib.hid (accT_all (hd := (k, num, (m : Int))) (ls := ls) (j := j) (by rw [← HM.out]; omega))
      have HO2 : Hid (wr.ownsRow w.heap.size 33 3 (.slice A3 (accT (k, num, (m : Int)) ls j).length c3) ((k, num, (m : Int)) :: (ls.map (·.2.2)).flatten).length (((k, num, (m : Int)) :: (ls.map (·.2.2)).flatten).flatMap ndCells)) := by
        show World.ownsRow _ _ _ _ _ _ _
        rw [← hall.out]; exact hO.out
      go_wp2_with fail
      go_ret
      exact ⟨_, rfl, HO2.out, hB.out⟩

end Go.Proofs.YtcnanbmbdajcaaaDoor
