/- FinsetProducts returns true: Product and Range return the specified results for arbitrary lists and numbers and for lists of small sets. No conditions but that the arguments fit the memory that the form grants. -/
import Derived.Test.YtkdlmgahkckjbaaGreatFpL
import Derived.Test.YtkdlmgahkckjbaaGreatOpen
import Derived.Test.YtkdlmgahkckjbaaGreatRows
namespace Go.Proofs.YtkdlmgahkckjbaaGreat
open Go Go.ChangeShapes Go.WideShapes Go.ChangeAt Go.RowKit
open Go.WideMaps Go.WideElems
open Go.ChangeMaps (open_string)

theorem of_sized {H : Type} {enc : TypeId × Value → H} {a : Assume} {C : Checked} {os : Os} {f : FuncId} {fn : Func} {s : ChangeSpec} {conds : List PathCond} {apart : Bool} {Post : World → Array Value → Value → World → Prop}
    (h : ReturnsInHanded a C os f .any (fun w args => (s.pre enc C.prog fn conds apart w args ∧ True) ∧ sizedMet enc C.prog fn (OpenSpec.ofChange s) apart w args) Post) : ReturnsInHanded a C os f .any (s.pre6 enc C.prog fn conds apart) Post := by
  have e : (fun w args => (s.pre enc C.prog fn conds apart w args ∧ True) ∧ sizedMet enc C.prog fn (OpenSpec.ofChange s) apart w args) = s.pre6 enc C.prog fn conds apart := by
    funext w args
    unfold ChangeSpec.pre6
    rw [and_true]
  rw [← e]
  exact h

theorem cells_val : Tryz.prog.cellsOf 27 = 1 := by kernel_rfl
theorem bytes_val : Tryz.prog.bytesOf 27 = 16 := by kernel_rfl
theorem weights_all {H : Type} {P : Program} {e : TypeId} {d : DataW H} {n : Nat} (hn : n ∈ d.weights P e) : ∀ {l : List (DataW H)}, d ∈ l → n ∈ DataW.weightsAll P e l
  | _ :: _, .head _ => by unfold DataW.weightsAll; exact List.mem_append_left _ hn
  | _ :: _, .tail _ h => by unfold DataW.weightsAll; exact List.mem_append_right _ (weights_all hn h)
set_option maxRecDepth 100000 in
theorem vals_wide {H : Type} {enc : TypeId × Value → H} (W : World) {a : Option Addr} {n c : Nat} {d : DataW H} {p : List MemPlace}
    (h : DataW.Trod enc Tryz.prog W 0 (fun _ => true) true 22 (.slice a n c) d p) (hw : ∀ m ∈ d.weights Tryz.prog 22, m ≤ reachBytes) : ∃ ls : List ByteArray, n = ls.length ∧ InC W a (ls.map Value.string) ∧ n ≤ 8796093022207 ∧ ∀ s ∈ ls, s.size ≤ 281474976710656 := by
  obtain ⟨fuel, hf⟩ := h
  rcases Go.Deep.open_slice1 Tryz.underlying22 cells_val hf with ⟨hcs, hx⟩ | ⟨a', len, cap, m, q, V, D, Pl, hcs, _, hl, _, hm, hx, hi⟩
  · simp [Value.cells] at hcs
    obtain ⟨rfl, rfl, rfl⟩ := hcs
    exact ⟨[], rfl, .inl rfl, by omega, fun s h => by cases h⟩
  · simp [Value.cells] at hcs
    obtain ⟨rfl, rfl, rfl⟩ := hcs
    injection hx with hx1 hx2
    subst hx1
    simp only [if_true] at hm
    simp only [DataW.weights, Tryz.underlying22] at hw
    have hsz := hw _ List.mem_cons_self
    rw [bytes_val] at hsz
    simp only [List.length_map, List.length_range] at hsz
    have hrb : reachBytes = 140737488351232 := by decide
    rw [hrb] at hsz hw
    have h1 : ∀ i, i < n → ∃ s : ByteArray, s.size ≤ 281474976710656 ∧ W.cell? (a'.add i) = some (.string s) := by
      intro i hin
      obtain ⟨hc, ht⟩ := hi i (by omega)
      obtain ⟨s, e1, e2, -⟩ := DataW.trod_string Tryz.underlying27 ht
      injection e1 with e1
      have e3 : D i = .lit (.string s.data.toList) := (Prod.mk.inj e2).1
      have h5 := hw s.data.toList.length (List.mem_cons_of_mem _ (List.mem_append_left _ (weights_all (d := D i) (by rw [e3]; simp [DataW.weights]) (List.mem_map.2 ⟨i, List.mem_range.2 hin, rfl⟩))))
      have h6 : s.data.toList.length = s.size := by simp
      exact ⟨s, by omega, by rw [hc, e1]⟩
    obtain ⟨ls, hls, hp⟩ := list_of n h1
    refine ⟨ls, hls.symm, ?_, by omega, fun s hs => ?_⟩
    · by_cases h0 : n = 0
      · exact .inl (by rw [List.eq_nil_of_length_eq_zero (show ls.length = 0 by omega)]; rfl)
      · obtain ⟨t0, ht0⟩ : ∃ t, ls[0]? = some t := ⟨ls[0], List.getElem?_eq_getElem (by omega)⟩
        have hc0 := (hp 0 t0 ht0).2
        obtain ⟨b, off, s⟩ := a'
        have hs : s = none := by simpa [Addr.add] using World.cell?_spot hc0
        subst hs
        refine .inr ⟨b, off, rfl, ?_, fun i u hu => ?_⟩
        · rw [Addr.add_lit] at hc0
          rcases Nat.lt_or_ge b W.heap.size with hlt | hge
          · exact hlt
          · simp [World.cell?, Array.getElem?_eq_none hge] at hc0
        · rw [List.getElem?_map] at hu
          obtain ⟨s, hs, rfl⟩ := Option.map_eq_some_iff.1 hu
          have := (hp i s hs).2
          rwa [Addr.add_lit] at this
    · obtain ⟨i, hi, rfl⟩ := List.mem_iff_getElem.1 hs
      exact (hp i _ (List.getElem?_eq_getElem hi)).1

set_option maxRecDepth 100000 in
theorem finsetProducts_lifted (os : Os) (started : os.Started) (H : Type) (enc : TypeId × Value → H) :
    ReturnsInHanded {} Tryz.checked os 3 .any (Rows.finsetProductsSpec.pre6 enc Tryz.prog Tryz.f3 Rows.finsetProductsRow.domain false) (Rows.finsetProductsSpec.post enc Tryz.prog Tryz.f3 false true false false) := by
  refine of_sized (returnsInHanded_of_change_and (C := Tryz.checked) (X := fun _ _ => True) (fun _ _ _ _ h => h) own started (by kernel_rfl) Tryz.func3
    (by
      obtain ⟨w, tape, i, h1, h2, h3, h4, ⟨h5, h6⟩, h7⟩ := (ChangeSpec.witness6 (enc := enc) (os := os) (f := 3) (fn := Tryz.f3) (s := Rows.finsetProductsSpec) (conds := Rows.finsetProductsRow.domain) (C := Tryz.checked) false ⟨#[], #[.slice none 0 0, .int .i64 0, .int .i64 0, .slice none 0 0], []⟩ 8 (by kernel_rfl) (by kernel_rfl) (by kernel_rfl) (by kernel_rfl))
      exact ⟨w, tape, i, h1, h2, h3, h4, ⟨⟨h5, trivial⟩, h6⟩, h7⟩) ?_)
  intro W base args ds gs before hval0 hW _ hsz _ _
  have hval : ∀ (j : Nat) t v, Tryz.f3.params[j]? = some t → args[j]? = some v → Value.okWide Tryz.prog W .any base t v := hval0
  have hW' := hW
  obtain ⟨p, q, hA0, hV, rfl, hfz, hnd⟩ := hW
  have hA : DataW.TrodAll enc Tryz.prog W 0 (fun _ => true) true Tryz.f3.params.toList args.toList ds p := hA0
  rw [Tryz.params3] at hA hval
  obtain ⟨v0, v1, v2, v3, d0, d1, d2, d3, p0, p1, p2, p3, rfl, rfl, rfl, h0, h1, h2, h3⟩ := trodAll_four hA
  obtain ⟨rfl, rfl⟩ := trodVars_none hV
  obtain ⟨a0, n0, c0, rfl⟩ := okWide_slice Tryz.underlying22 (hval 0 22 v0 rfl rfl)
  obtain ⟨l0, hn0, hr0, hb0, hs0⟩ := vals_wide W h0 (fun m hm => by
    have h9 := List.all_eq_true.1 hsz _ (DataW.weights_mem_each (j := 0) rfl rfl m hm)
    simpa using h9)
  obtain ⟨z1, rfl, rfl, rfl, wz1⟩ := open_int Tryz.underlying2 (hval 1 2 v1 rfl rfl) h1
  obtain ⟨z2, rfl, rfl, rfl, wz2⟩ := open_int Tryz.underlying2 (hval 2 2 v2 rfl rfl) h2
  obtain ⟨a3, n3, c3, rfl⟩ := okWide_slice Tryz.underlying23 (hval 3 23 v3 rfl rfl)
  obtain ⟨hI3, hl3⟩ := ints_in W h3
  refine (finsetProducts_any l0 a0 n0 c0 z1 z2 a3 n3 c3 hn0 hb0 hs0 (bounds_i64 wz1) (bounds_i64 wz2) hl3 W hr0 hI3).mono fun e W' ⟨he, hw⟩ => ?_
  subst he
  exact ⟨_, rfl, law_post hW' hw rfl (by kernel_rfl) (by
    intro t ht
    rw [Tryz.params3] at ht
    have hm : t ∈ [22, 2, 2, 23] := ht
    have hall : ([22, 2, 2, 23].all fun u => Tryz.prog.readableRec u && decide (u < Tryz.prog.types.size)) = true := by kernel_rfl
    have := List.all_eq_true.1 hall t hm
    simpa using this) rfl rfl rfl⟩

theorem finsetProducts_holds : Rows.FinsetProductsSaid :=
  OpenClaim.holds_of_wide 3 Tryz.f3 rfl rfl rfl rfl rfl rfl rfl ⟨rfl, rfl, rfl, rfl, rfl⟩ rfl rfl rfl rfl rfl (by kernel_rfl) Tryz.func3 (by kernel_rfl)
    (of_decide_eq_true (by kernel_rfl)) (by unfold Func.isWrapper; rw [if_neg (of_decide_eq_false (by kernel_rfl))]; exact ⟨rfl, rfl⟩)
    (fun os started H enc _ => finsetProducts_lifted os started H enc)

end Go.Proofs.YtkdlmgahkckjbaaGreat
