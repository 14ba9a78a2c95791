/- Openings of arguments: nodes of types, bindings. No conditions. -/
import Derived.Test.YtcnanbmbdajcaaaDoorOpen
import Derived.Test.YtcnanbmbdajcaaaDoorTyH0
namespace Go.Proofs.YtcnanbmbdajcaaaDoor
open Go Go.ChangeShapes Go.WideShapes Go.ChangeAt Go.RowKit
open Go.WideMaps Go.WideElems
open M

theorem cells_node : Tryd.prog.cellsOf 33 = 3 := by kernel_rfl
theorem cells_bind : Tryd.prog.cellsOf 43 = 2 := by kernel_rfl
theorem cells_nodes : Tryd.prog.cellsOf 22 = 1 := by kernel_rfl
section
variable {H : Type} {enc : TypeId × Value → H} {W : World}
set_option maxRecDepth 100000 in
theorem node_of {fuel : Nat} {cs : List Value} {x : DataW H × List MemPlace} (h : DataW.trod enc Tryd.prog W 0 (fun _ => true) true fuel 33 cs = some x) : ∃ t : TN, cs = ndCells t ∧ True := by
  obtain ⟨xs, n, rfl, _, hl, hxl, hf⟩ := DataW.trod_struct Tryd.underlying33 h
  rw [cells_node] at hl
  have hxl : xs.length = 3 := hxl
  match cs, hl with
  | [c0, c1, c2], _ =>
    have f0 : DataW.trod enc Tryd.prog W 0 (fun _ => true) true n 3 (([c0, c1, c2].drop 0).take (Tryd.prog.cellsOf 3)) = xs[0]? := hf 0 _ rfl
    have f1 : DataW.trod enc Tryd.prog W 0 (fun _ => true) true n 3 (([c0, c1, c2].drop 1).take (Tryd.prog.cellsOf 3)) = xs[1]? := hf 1 _ rfl
    have f2 : DataW.trod enc Tryd.prog W 0 (fun _ => true) true n 3 (([c0, c1, c2].drop 2).take (Tryd.prog.cellsOf 3)) = xs[2]? := hf 2 _ rfl
    rw [List.getElem?_eq_getElem (by omega), cells_i64] at f0 f1 f2
    obtain ⟨a, e0, -, -⟩ := DataW.trod_int Tryd.underlying3 f0
    obtain ⟨b, e1, -, -⟩ := DataW.trod_int Tryd.underlying3 f1
    obtain ⟨c, e2, -, -⟩ := DataW.trod_int Tryd.underlying3 f2
    have e0 : [c0] = [Value.int .i64 a] := e0
    have e1 : [c1] = [Value.int .i64 b] := e1
    have e2 : [c2] = [Value.int .i64 c] := e2
    injection e0 with e0
    injection e1 with e1
    injection e2 with e2
    exact ⟨(a, b, c), by rw [e0, e1, e2]; rfl, trivial⟩
theorem nodes_in {a : Option Addr} {n c : Nat} {d : DataW H} {p : List MemPlace} (h : DataW.Trod enc Tryd.prog W 0 (fun _ => true) true 22 (.slice a n c) d p) :
    ∃ ts : List TN, n = ts.length ∧ n ≤ maxLen ∧ n ≤ c ∧ InC W a (ts.flatMap ndCells) := by
  obtain ⟨ts, h1, h2, h3, h4, _⟩ := slice_in (R := fun _ => True) (f := ndCells) Tryd.underlying22 cells_node nd_len (by decide) (fun hx => node_of hx) h
  exact ⟨ts, h1, h2, h3, h4⟩
set_option maxRecDepth 100000 in
theorem bind_of {fuel : Nat} {cs : List Value} {x : DataW H × List MemPlace} (h : DataW.trod enc Tryd.prog W 0 (fun _ => true) true fuel 43 cs = some x) :
    ∃ b : BS, cs = bdCells b ∧ (InC W b.2.1 (b.2.2.2.flatMap ndCells) ∧ b.2.2.2.length ≤ maxLen ∧ b.2.2.2.length ≤ b.2.2.1) := by
  obtain ⟨xs, n, rfl, _, hl, hxl, hf⟩ := DataW.trod_struct Tryd.underlying43 h
  rw [cells_bind] at hl
  have hxl : xs.length = 2 := hxl
  match cs, hl with
  | [c0, c1], _ =>
    have f0 : DataW.trod enc Tryd.prog W 0 (fun _ => true) true n 3 (([c0, c1].drop 0).take (Tryd.prog.cellsOf 3)) = xs[0]? := hf 0 _ rfl
    have f1 : DataW.trod enc Tryd.prog W 0 (fun _ => true) true n 22 (([c0, c1].drop 1).take (Tryd.prog.cellsOf 22)) = xs[1]? := hf 1 _ rfl
    rw [List.getElem?_eq_getElem (by omega), cells_i64] at f0
    rw [List.getElem?_eq_getElem (by omega), cells_nodes] at f1
    obtain ⟨a, e0, -, -⟩ := DataW.trod_int Tryd.underlying3 f0
    obtain ⟨A, m, c, ts, e1, hn, hm, hc, hI, -⟩ := slice_in_cs (R := fun _ => True) (f := ndCells) Tryd.underlying22 cells_node nd_len (by decide) (fun hx => node_of hx) f1
    have e0 : [c0] = [Value.int .i64 a] := e0
    have e1 : [c1] = [Value.slice A m c] := e1
    injection e0 with e0
    injection e1 with e1
    subst hn
    exact ⟨(a, A, c, ts), by rw [e0, e1]; rfl, hI, hm, hc⟩
theorem binds_in {a : Option Addr} {n c : Nat} {d : DataW H} {p : List MemPlace} (h : DataW.Trod enc Tryd.prog W 0 (fun _ => true) true 38 (.slice a n c) d p) :
    ∃ bs : List BS, n = bs.length ∧ n ≤ maxLen ∧ n ≤ c ∧ InB W a bs := by
  obtain ⟨bs, h1, h2, h3, h4, h5⟩ := slice_in (f := bdCells) Tryd.underlying38 cells_bind bd_len (by decide) (fun hx => bind_of hx) h
  exact ⟨bs, h1, h2, h3, h4, h5⟩
end

end Go.Proofs.YtcnanbmbdajcaaaDoor
