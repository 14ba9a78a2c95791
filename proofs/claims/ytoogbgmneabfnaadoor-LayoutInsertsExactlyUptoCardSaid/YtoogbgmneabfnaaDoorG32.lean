/- Openings of arguments: a slice of tokens, and how many there are at most. No conditions. Openings of arguments: a slice of tokens, with the ranges of its numbers and the lengths of its strings. No conditions. How many cells a slice among the arguments has, by the bound of a second form. No conditions. -/
import Derived.Test.YtoogbgmneabfnaaDoorG16
import Derived.Test.YtoogbgmneabfnaaDoorG31
import Derived.Deep.Slices
import Derived.SizedLaws
import Derived.Test.YtoogbgmneabfnaaDoorRows
namespace Go.Proofs.YtoogbgmneabfnaaDoor
open Go Go.ChangeShapes Go.WideShapes Go.RowKit
open Go.WideMaps Go.WideElems
open M

theorem cells_tok : Tryd.prog.cellsOf 37 = 5 := by kernel_rfl
theorem cells_pos : Tryd.prog.cellsOf 29 = 2 := by kernel_rfl
theorem cells_int : Tryd.prog.cellsOf 3 = 1 := by kernel_rfl
theorem cells_int64 : Tryd.prog.cellsOf 2 = 1 := by kernel_rfl
theorem bytes_tok : Tryd.prog.bytesOf 37 = 48 := by kernel_rfl

section
variable {H : Type} {enc : TypeId × Value → H} {W : World} {base : Nat} {spare : Nat → Bool} {held : Bool}
set_option maxRecDepth 100000 in
theorem pos_of {fuel : Nat} {cs : List Value} {x : DataW H × List MemPlace} (h : DataW.trod enc Tryd.prog W base spare held fuel 29 cs = some x) : ∃ a b : Int, cs = [.int .i64 a, .int .i64 b] := by
  obtain ⟨xs, n, rfl, _, hl, hxl, hf⟩ := DataW.trod_struct Tryd.underlying29 h
  rw [cells_pos] at hl
  have hxl : xs.length = 2 := hxl
  match cs, hl with
  | [c0, c1], _ =>
    have f0 : DataW.trod enc Tryd.prog W base spare held n 3 (([c0, c1].drop 0).take (Tryd.prog.cellsOf 3)) = xs[0]? := hf 0 _ rfl
    have f1 : DataW.trod enc Tryd.prog W base spare held n 3 (([c0, c1].drop 1).take (Tryd.prog.cellsOf 3)) = xs[1]? := hf 1 _ rfl
    rw [List.getElem?_eq_getElem (by omega), cells_int] at f0 f1
    obtain ⟨a, e0, -, -⟩ := DataW.trod_int Tryd.underlying3 f0
    obtain ⟨b, e1, -, -⟩ := DataW.trod_int Tryd.underlying3 f1
    have e0 : [c0] = [Value.int .i64 a] := e0
    have e1 : [c1] = [Value.int .i64 b] := e1
    injection e0 with e0
    injection e1 with e1
    exact ⟨a, b, by rw [e0, e1]⟩
set_option maxRecDepth 100000 in
theorem tok_of {fuel : Nat} {cs : List Value} {x : DataW H × List MemPlace} (h : DataW.trod enc Tryd.prog W base spare held fuel 37 cs = some x) : ∃ t : Tok, cs = tokCells t := by
  obtain ⟨xs, n, rfl, _, hl, hxl, hf⟩ := DataW.trod_struct Tryd.underlying37 h
  rw [cells_tok] at hl
  have hxl : xs.length = 4 := hxl
  match cs, hl with
  | [c0, c1, c2, c3, c4], _ =>
    have f0 : DataW.trod enc Tryd.prog W base spare held n 3 (([c0, c1, c2, c3, c4].drop 0).take (Tryd.prog.cellsOf 3)) = xs[0]? := hf 0 _ rfl
    have f1 : DataW.trod enc Tryd.prog W base spare held n 2 (([c0, c1, c2, c3, c4].drop 1).take (Tryd.prog.cellsOf 2)) = xs[1]? := hf 1 _ rfl
    have f2 : DataW.trod enc Tryd.prog W base spare held n 9 (([c0, c1, c2, c3, c4].drop 2).take (Tryd.prog.cellsOf 9)) = xs[2]? := hf 2 _ rfl
    have f3 : DataW.trod enc Tryd.prog W base spare held n 29 (([c0, c1, c2, c3, c4].drop 3).take (Tryd.prog.cellsOf 29)) = xs[3]? := hf 3 _ rfl
    rw [List.getElem?_eq_getElem (by omega)] at f0 f1 f2 f3
    rw [cells_int] at f0
    rw [cells_int64] at f1
    rw [cells_str] at f2
    rw [cells_pos] at f3
    obtain ⟨kd, e0, -, -⟩ := DataW.trod_int Tryd.underlying3 f0
    obtain ⟨nu, e1, -, -⟩ := DataW.trod_int Tryd.underlying2 f1
    obtain ⟨st, e2, -, -⟩ := DataW.trod_string Tryd.underlying9 f2
    obtain ⟨a, b, e3⟩ := pos_of f3
    have e0 : [c0] = [Value.int .i64 kd] := e0
    have e1 : [c1] = [Value.int .i64 nu] := e1
    have e2 : [c2] = [Value.string st] := e2
    have e3 : [c3, c4] = [Value.int .i64 a, Value.int .i64 b] := e3
    injection e0 with e0
    injection e1 with e1
    injection e2 with e2
    injection e3 with e3 e4
    injection e4 with e4
    refine ⟨(⟨kd, nu, st.data.toList, 0⟩, (a, b)), ?_⟩
    rw [e0, e1, e2, e3, e4]
    show _ = [Value.int .i64 kd, .int .i64 nu, .string (S st.data.toList), .int .i64 a, .int .i64 b]
    rw [S_of]
end

theorem list_of {α : Type} {p : Nat → α → Prop} : ∀ (n : Nat), (∀ i, i < n → ∃ t, p i t) → ∃ ts : List α, ts.length = n ∧ ∀ i t, ts[i]? = some t → p i t := by
  intro n
  induction n with
  | zero => intro _; exact ⟨[], rfl, fun i t h => by simp at h⟩
  | succ n ih =>
    intro h
    obtain ⟨ts, hl, hp⟩ := ih (fun i hi => h i (by omega))
    obtain ⟨t, ht⟩ := h n (by omega)
    refine ⟨ts ++ [t], by simp [hl], fun i u hu => ?_⟩
    by_cases hi : i < ts.length
    · rw [List.getElem?_append_left hi] at hu; exact hp i u hu
    · rw [List.getElem?_append_right (by omega)] at hu
      have h0 : i - ts.length = 0 := by
        by_cases h0 : i - ts.length = 0
        · exact h0
        · rw [List.getElem?_eq_none (by simp; omega)] at hu; simp at hu
      rw [h0] at hu
      have e : i = n := by omega
      simp at hu
      rw [e, ← hu]; exact ht

set_option maxRecDepth 100000 in
theorem toks_in {H : Type} {enc : TypeId × Value → H} (W : World) {a : Option Addr} {n c : Nat} {d : DataW H} {p : List MemPlace}
    (h : DataW.Trod enc Tryd.prog W 0 (fun _ => true) true 22 (.slice a n c) d p) :
    ∃ ts : List Tok, n = ts.length ∧ InToks W a ts ∧ (d = .nil ∧ n = 0 ∨ ∃ elems spare, d = .slice elems spare ∧ elems.length = n) := by
  obtain ⟨fuel, hf⟩ := h
  rcases Go.Deep.open_slice Tryd.underlying22 hf with ⟨hcs, hx⟩ | ⟨a', len, cap, m, q, D, Pl, hcs, _, hl, _, hm, hx, hi⟩
  · simp [Value.cells] at hcs
    obtain ⟨rfl, rfl, rfl⟩ := hcs
    injection hx with hx1 hx2
    exact ⟨[], rfl, .inl rfl, .inl ⟨hx1, rfl⟩⟩
  · simp [Value.cells] at hcs
    obtain ⟨rfl, rfl, rfl⟩ := hcs
    injection hx with hx1 hx2
    simp only [if_true] at hm
    have h1 : ∀ i, i < n → ∃ t : Tok, ∀ r u, (tokCells t)[r]? = some u → W.cell? (a'.add (i * 5 + r)) = some u := by
      intro i hin
      obtain ⟨cs', hc, ht⟩ := hi i (by omega)
      obtain ⟨t, rfl⟩ := tok_of ht
      obtain ⟨_, _, hat⟩ := World.cells?_some hc
      refine ⟨t, fun r u hu => ?_⟩
      have hr : r < 5 := (List.getElem?_eq_some_iff.1 hu).1
      have := hat r (by rw [cells_tok]; exact hr)
      rw [cells_tok, hu, Addr.add_add] at this
      exact this
    obtain ⟨ts, hts, hp⟩ := list_of n h1
    refine ⟨ts, hts.symm, ?_, .inr ⟨_, _, hx1, by simp⟩⟩
    by_cases h0 : n = 0
    · exact .inl (List.eq_nil_of_length_eq_zero (by omega))
    · obtain ⟨t0, ht0⟩ : ∃ t, ts[0]? = some t := ⟨ts[0], List.getElem?_eq_getElem (by omega)⟩
      have hc0 := hp 0 t0 ht0 0 _ rfl
      obtain ⟨b, off, s⟩ := a'
      have hs : s = none := by simpa [Addr.add] using World.cell?_spot hc0
      subst hs
      refine .inr ⟨b, off, rfl, ?_, fun k t ht j u hu => ?_⟩
      · rw [Addr.add_lit] at hc0
        rcases Nat.lt_or_ge b W.heap.size with hlt | hge
        · exact hlt
        · simp [World.cell?, Array.getElem?_eq_none hge] at hc0
      · have := hp k t ht j u hu
        rwa [Addr.add_lit, ← Nat.add_assoc] at this

theorem toks_fit {H : Type} {n : Nat} {d : DataW H} {ts : List Tok} (hn : n = ts.length) (hd : d = .nil ∧ n = 0 ∨ ∃ elems spare, d = .slice elems spare ∧ elems.length = n)
    (h : ∀ elems spare, d = .slice elems spare → (elems.length + spare.length) * Tryd.prog.bytesOf 37 ≤ reachBytes) : ts.length ≤ 2932031007402 := by
  rcases hd with ⟨_, h0⟩ | ⟨elems, spare, rfl, hl⟩
  · omega
  · have := h elems spare rfl
    rw [bytes_tok] at this
    unfold reachBytes at this
    omega

end Go.Proofs.YtoogbgmneabfnaaDoor

namespace Go.Proofs.YtoogbgmneabfnaaDoor
open Go Go.ChangeShapes Go.WideShapes Go.RowKit
open Go.WideMaps Go.WideElems
open M

/-- a token that lies in memory -/
structure WideTok (t : Tok) : Prop where
  num0 : -9223372036854775808 ≤ t.1.num
  num1 : t.1.num ≤ 9223372036854775807
  str : t.1.str.length ≤ 140737488351232
  kind0 : -9223372036854775808 ≤ t.1.kind
  kind1 : t.1.kind ≤ 9223372036854775807
  line0 : -9223372036854775808 ≤ t.2.1
  line1 : t.2.1 ≤ 9223372036854775807
  col0 : -9223372036854775808 ≤ t.2.2
  col1 : t.2.2 ≤ 9223372036854775807

theorem wf_range {n : Int} (h : (Lit.int .i64 n).wf = true) : -9223372036854775808 ≤ n ∧ n ≤ 9223372036854775807 := bounds_i64 h

theorem weights_all {H : Type} {P : Program} {e : TypeId} : ∀ {l : List (DataW H)} {d : DataW H}, d ∈ l → ∀ n ∈ d.weights P e, n ∈ DataW.weightsAll P e l := by
  intro l
  induction l with
  | nil => intro d h; simp at h
  | cons x r ih =>
    intro d h n hn
    simp only [DataW.weightsAll, List.mem_append]
    rcases List.mem_cons.1 h with rfl | h
    · exact .inl hn
    · exact .inr (ih h n hn)

section
variable {H : Type} {enc : TypeId × Value → H} {W : World} {base : Nat} {spare : Nat → Bool} {held : Bool}
set_option maxRecDepth 100000 in
theorem pos_wide {fuel : Nat} {cs : List Value} {x : DataW H × List MemPlace} (h : DataW.trod enc Tryd.prog W base spare held fuel 29 cs = some x) :
    ∃ a b : Int, cs = [.int .i64 a, .int .i64 b] ∧ (-9223372036854775808 ≤ a ∧ a ≤ 9223372036854775807) ∧ (-9223372036854775808 ≤ b ∧ b ≤ 9223372036854775807) := by
  obtain ⟨xs, n, rfl, _, hl, hxl, hf⟩ := DataW.trod_struct Tryd.underlying29 h
  rw [cells_pos] at hl
  have hxl : xs.length = 2 := hxl
  match cs, hl with
  | [c0, c1], _ =>
    have f0 : DataW.trod enc Tryd.prog W base spare held n 3 (([c0, c1].drop 0).take (Tryd.prog.cellsOf 3)) = xs[0]? := hf 0 _ rfl
    have f1 : DataW.trod enc Tryd.prog W base spare held n 3 (([c0, c1].drop 1).take (Tryd.prog.cellsOf 3)) = xs[1]? := hf 1 _ rfl
    rw [List.getElem?_eq_getElem (by omega), cells_int] at f0 f1
    obtain ⟨a, e0, -, r0⟩ := DataW.trod_int Tryd.underlying3 f0
    obtain ⟨b, e1, -, r1⟩ := DataW.trod_int Tryd.underlying3 f1
    have e0 : [c0] = [Value.int .i64 a] := e0
    have e1 : [c1] = [Value.int .i64 b] := e1
    injection e0 with e0
    injection e1 with e1
    exact ⟨a, b, by rw [e0, e1], wf_range r0, wf_range r1⟩
set_option maxRecDepth 100000 in
theorem tok_wide {fuel : Nat} {cs : List Value} {x : DataW H × List MemPlace} (h : DataW.trod enc Tryd.prog W base spare held fuel 37 cs = some x)
    (hw : ∀ m ∈ x.1.weights Tryd.prog 37, m ≤ reachBytes) : ∃ t : Tok, cs = tokCells t ∧ WideTok t := by
  obtain ⟨xs, n, rfl, rfl, hl, hxl, hf⟩ := DataW.trod_struct Tryd.underlying37 h
  rw [cells_tok] at hl
  have hxl : xs.length = 4 := hxl
  match cs, hl with
  | [c0, c1, c2, c3, c4], _ =>
    have f0 : DataW.trod enc Tryd.prog W base spare held n 3 (([c0, c1, c2, c3, c4].drop 0).take (Tryd.prog.cellsOf 3)) = xs[0]? := hf 0 _ rfl
    have f1 : DataW.trod enc Tryd.prog W base spare held n 2 (([c0, c1, c2, c3, c4].drop 1).take (Tryd.prog.cellsOf 2)) = xs[1]? := hf 1 _ rfl
    have f2 : DataW.trod enc Tryd.prog W base spare held n 9 (([c0, c1, c2, c3, c4].drop 2).take (Tryd.prog.cellsOf 9)) = xs[2]? := hf 2 _ rfl
    have f3 : DataW.trod enc Tryd.prog W base spare held n 29 (([c0, c1, c2, c3, c4].drop 3).take (Tryd.prog.cellsOf 29)) = xs[3]? := hf 3 _ rfl
    obtain ⟨y2, hy2⟩ : ∃ y, xs[2]? = some y := ⟨_, List.getElem?_eq_getElem (by omega)⟩
    rw [hy2] at f2
    rw [List.getElem?_eq_getElem (by omega)] at f0 f1 f3
    rw [cells_int] at f0
    rw [cells_int64] at f1
    rw [cells_str] at f2
    rw [cells_pos] at f3
    obtain ⟨kd, e0, -, r0⟩ := DataW.trod_int Tryd.underlying3 f0
    obtain ⟨nu, e1, -, r1⟩ := DataW.trod_int Tryd.underlying2 f1
    obtain ⟨st, e2, q2, -⟩ := DataW.trod_string Tryd.underlying9 f2
    obtain ⟨a, b, e3, ra, rb⟩ := pos_wide f3
    have e0 : [c0] = [Value.int .i64 kd] := e0
    have e1 : [c1] = [Value.int .i64 nu] := e1
    have e2 : [c2] = [Value.string st] := e2
    have e3 : [c3, c4] = [Value.int .i64 a, Value.int .i64 b] := e3
    injection e0 with e0
    injection e1 with e1
    injection e2 with e2
    injection e3 with e3 e4
    injection e4 with e4
    have hs : st.data.toList.length ≤ reachBytes := by
      refine hw _ ?_
      simp only [DataW.weights, Tryd.underlying37]
      refine DataW.weights_mem_each (j := 2) (t := 9) (d := y2.1) rfl (by simp [hy2]) _ ?_
      rw [q2]
      simp [DataW.weights]
    refine ⟨(⟨kd, nu, st.data.toList, 0⟩, (a, b)), ?_, ⟨(wf_range r1).1, (wf_range r1).2, hs, (wf_range r0).1, (wf_range r0).2, ra.1, ra.2, rb.1, rb.2⟩⟩
    rw [e0, e1, e2, e3, e4]
    show _ = [Value.int .i64 kd, .int .i64 nu, .string (S st.data.toList), .int .i64 a, .int .i64 b]
    rw [S_of]
end

set_option maxRecDepth 100000 in
theorem toks_wide {H : Type} {enc : TypeId × Value → H} (W : World) {a : Option Addr} {n c : Nat} {d : DataW H} {p : List MemPlace}
    (h : DataW.Trod enc Tryd.prog W 0 (fun _ => true) true 22 (.slice a n c) d p) (hw : ∀ m ∈ d.weights Tryd.prog 22, m ≤ reachBytes) :
    ∃ ts : List Tok, n = ts.length ∧ InToks W a ts ∧ ts.length ≤ 2932031007402 ∧ ∀ t ∈ ts, WideTok t := by
  obtain ⟨fuel, hf⟩ := h
  rcases Go.Deep.open_slice Tryd.underlying22 hf with ⟨hcs, hx⟩ | ⟨a', len, cap, m, q, D, Pl, hcs, _, hl, _, hm, hx, hi⟩
  · simp [Value.cells] at hcs
    obtain ⟨rfl, rfl, rfl⟩ := hcs
    exact ⟨[], rfl, .inl rfl, by simp, by intro t ht; simp at ht⟩
  · simp [Value.cells] at hcs
    obtain ⟨rfl, rfl, rfl⟩ := hcs
    injection hx with hx1 hx2
    subst hx1
    simp only [if_true] at hm
    simp only [DataW.weights, Tryd.underlying22] at hw
    have hsz := hw _ List.mem_cons_self
    rw [bytes_tok] at hsz
    simp only [List.length_map, List.length_range] at hsz
    unfold reachBytes at hsz
    have hwe : ∀ i, i < n → ∀ m ∈ (D i).weights Tryd.prog 37, m ≤ reachBytes := fun i hin m hm => hw m (List.mem_cons_of_mem _ (List.mem_append_left _ (weights_all (List.mem_map.2 ⟨i, List.mem_range.2 hin, rfl⟩) m hm)))
    have h1 : ∀ i, i < n → ∃ t : Tok, WideTok t ∧ ∀ r u, (tokCells t)[r]? = some u → W.cell? (a'.add (i * 5 + r)) = some u := by
      intro i hin
      obtain ⟨cs', hc, ht⟩ := hi i (by omega)
      obtain ⟨t, rfl, hwt⟩ := tok_wide ht (hwe i hin)
      obtain ⟨_, _, hat⟩ := World.cells?_some hc
      refine ⟨t, hwt, fun r u hu => ?_⟩
      have hr : r < 5 := (List.getElem?_eq_some_iff.1 hu).1
      have := hat r (by rw [cells_tok]; exact hr)
      rw [cells_tok, hu, Addr.add_add] at this
      exact this
    obtain ⟨ts, hts, hp⟩ := list_of n h1
    refine ⟨ts, hts.symm, ?_, by omega, fun t ht => ?_⟩
    · by_cases h0 : n = 0
      · exact .inl (List.eq_nil_of_length_eq_zero (by omega))
      · obtain ⟨t0, ht0⟩ : ∃ t, ts[0]? = some t := ⟨ts[0], List.getElem?_eq_getElem (by omega)⟩
        have hc0 := (hp 0 t0 ht0).2 0 _ rfl
        obtain ⟨b, off, s⟩ := a'
        have hs : s = none := by simpa [Addr.add] using World.cell?_spot hc0
        subst hs
        refine .inr ⟨b, off, rfl, ?_, fun k t ht j u hu => ?_⟩
        · rw [Addr.add_lit] at hc0
          rcases Nat.lt_or_ge b W.heap.size with hlt | hge
          · exact hlt
          · simp [World.cell?, Array.getElem?_eq_none hge] at hc0
        · have := (hp k t ht).2 j u hu
          rwa [Addr.add_lit, ← Nat.add_assoc] at this
    · obtain ⟨i, hi, rfl⟩ := List.mem_iff_getElem.1 ht
      exact (hp i _ (List.getElem?_eq_getElem hi)).1

end Go.Proofs.YtoogbgmneabfnaaDoor

namespace Go.Proofs.YtoogbgmneabfnaaDoor
open Go

theorem bulk_pos {H : Type} : ∀ d : DataW H, 0 < Rows.uptoBulk d
  | .lit (.string _) => by unfold Rows.uptoBulk; omega
  | .lit (.bool _) => by unfold Rows.uptoBulk; omega
  | .lit (.int _ _) => by unfold Rows.uptoBulk; omega
  | .lit (.float _ _) => by unfold Rows.uptoBulk; omega
  | .lit .nil => by unfold Rows.uptoBulk; omega
  | .nil => by unfold Rows.uptoBulk; omega
  | .ptr _ => by unfold Rows.uptoBulk; omega
  | .slice _ _ => by unfold Rows.uptoBulk; omega
  | .agg _ => by unfold Rows.uptoBulk; omega
  | .iface _ _ => by unfold Rows.uptoBulk; omega
  | .map _ => by unfold Rows.uptoBulk; omega
  | .held _ => by unfold Rows.uptoBulk; omega
theorem bulk_count {H : Type} (l : List (DataW H)) : l.length ≤ Rows.uptoBulkAll l := by
  induction l with
  | nil => exact Nat.zero_le _
  | cons d r ih => have := bulk_pos d; unfold Rows.uptoBulkAll; rw [List.length_cons]; omega
theorem bulk_mem {H : Type} {d : DataW H} : ∀ {l : List (DataW H)}, d ∈ l → Rows.uptoBulk d ≤ Rows.uptoBulkAll l
  | _ :: _, .head _ => by unfold Rows.uptoBulkAll; omega
  | _ :: _, .tail _ h => by have := bulk_mem h; unfold Rows.uptoBulkAll; omega
/-- a slice among arguments of bounded bulk has few cells -/
theorem bulk_slice {H : Type} {l : List (DataW H)} {elems spare : List (DataW H)} (hs : Rows.uptoSmall H l = true) (hm : .slice elems spare ∈ l) : elems.length + spare.length < 1048576 := by
  have h1 := of_decide_eq_true hs
  have h2 := bulk_mem hm
  have h3 := bulk_count elems
  have h4 := bulk_count spare
  unfold Rows.uptoBulk at h2
  omega

end Go.Proofs.YtoogbgmneabfnaaDoor
