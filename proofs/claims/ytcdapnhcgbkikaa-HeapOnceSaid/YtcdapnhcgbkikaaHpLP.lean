/- HeapOnce returns true: a thunk is entered at most once: after Enter it is ErrLoop until it is updated, and afterwards it is data. No conditions. -/
import Derived.Test.YtcdapnhcgbkikaaHpL
import Derived.Test.YtcdapnhcgbkikaaOpen
import Derived.Test.YtcdapnhcgbkikaaRows
namespace Go.Proofs.Ytcdapnhcgbkikaa
open Go Go.ChangeShapes Go.WideShapes Go.ChangeAt Go.RowKit
open Go.WideMaps Go.WideElems
open Go.ChangeMaps (open_string)

theorem cells_u8Z : Try.prog.cellsOf 5 = 1 := by kernel_rfl
theorem bytes_inBy {H : Type} {enc : TypeId × Value → H} (W : World) {a : Option Addr} {n c : Nat} {d : DataW H} {p : List MemPlace}
    (h : DataW.Trod enc Try.prog W 0 (fun _ => true) true 35 (.slice a n c) d p) : InBy W a n ∧ n ≤ maxLen := by
  obtain ⟨fuel, hf⟩ := h
  rcases open_ints Try.underlying35 Try.underlying5 cells_u8Z hf with ⟨hcs, _⟩ | ⟨a', len', cap', zs, hcs, _, hl, hm, hz, _, hcell, hwz⟩
  · simp [Value.cells] at hcs
    obtain ⟨_, rfl, _⟩ := hcs
    exact ⟨.inl rfl, by unfold maxLen; omega⟩
  · simp [Value.cells] at hcs
    obtain ⟨rfl, rfl, rfl⟩ := hcs
    refine ⟨?_, by omega⟩
    simp only [if_true] at hz
    by_cases h0 : n = 0
    · exact .inl h0
    · obtain ⟨b, off, rfl, hc⟩ := ints_at hcell (by omega)
      refine .inr ⟨b, off, rfl, ?_, fun k hk => ?_⟩
      · have := hc 0 (by omega)
        rcases Nat.lt_or_ge b W.heap.size with hlt | hge
        · exact hlt
        · simp [World.cell?, Array.getElem?_eq_none hge] at this
      · have hk2 : k < zs.length := by omega
        have hw := hwz (zs.getD k 0) (by simp [hk2])
        have hb : 0 ≤ zs.getD k 0 ∧ zs.getD k 0 ≤ 255 := bounds_u8 hw
        have hcc := hc k hk2
        refine ⟨(zs.getD k 0).toNat, by omega, ?_⟩
        rw [Int.toNat_of_nonneg hb.1]
        exact hcc

set_option maxRecDepth 100000 in
theorem heapOnce_lifted (os : Os) (started : os.Started) (H : Type) (enc : TypeId × Value → H) :
    ReturnsInHanded {} Try.checked os 4 .any (Rows.heapOnceSpec.pre6 enc Try.prog Try.f4 Rows.heapOnceRow.domain false) (Rows.heapOnceSpec.post enc Try.prog Try.f4 false true false false) := by
  refine returnsInHanded_of_change (C := Try.checked) own started (by kernel_rfl) Try.func4
    (ChangeSpec.witness6 (enc := enc) (C := Try.checked) false ⟨#[], #[.int .u8 0, .slice none 0 0], []⟩ 8 (by kernel_rfl) (by kernel_rfl) (by kernel_rfl) (by kernel_rfl)) ?_
  intro W base args ds gs before hval0 hW _ _
  have hval : ∀ (j : Nat) t v, Try.f4.params[j]? = some t → args[j]? = some v → Value.okWide Try.prog W .any base t v := hval0
  have hW' := hW
  obtain ⟨p, q, hA0, hV, rfl, hfz, hnd⟩ := hW
  have hA : DataW.TrodAll enc Try.prog W 0 (fun _ => true) true Try.f4.params.toList args.toList ds p := hA0
  rw [Try.params4] at hA hval
  obtain ⟨v0, v1, d0, d1, p0, p1, rfl, rfl, rfl, h0, h1⟩ := trodAll_two hA
  obtain ⟨rfl, rfl⟩ := trodVars_none hV
  obtain ⟨z0, rfl, rfl, rfl, wz0⟩ := open_int Try.underlying5 (hval 0 5 v0 rfl rfl) h0
  obtain ⟨a1, n1, c1, rfl⟩ := okWide_slice Try.underlying35 (hval 1 35 v1 rfl rfl)
  obtain ⟨hI1, hl1⟩ := bytes_inBy W h1
  refine (heapOnce_any z0 (bounds_u8 wz0).1 (bounds_u8 wz0).2 a1 n1 c1 hl1 W hI1).mono fun e W' ⟨he, hw⟩ => ?_
  subst he
  exact ⟨_, rfl, law_post hW' hw rfl (by kernel_rfl) (by
    intro t ht
    rw [Try.params4] at ht
    have hm : t ∈ [5, 35] := ht
    have hall : ([5, 35].all fun u => Try.prog.readableRec u && decide (u < Try.prog.types.size)) = true := by kernel_rfl
    have := List.all_eq_true.1 hall t hm
    simpa using this) rfl rfl rfl⟩

theorem heapOnce_holds : Rows.HeapOnceSaid :=
  OpenClaim.holds_of_wide 4 Try.f4 rfl rfl rfl rfl rfl rfl rfl ⟨rfl, rfl, rfl, rfl, rfl⟩ rfl rfl rfl rfl rfl (by kernel_rfl) Try.func4 (by kernel_rfl)
    (of_decide_eq_true (by kernel_rfl)) (by unfold Func.isWrapper; rw [if_neg (of_decide_eq_false (by kernel_rfl))]; exact ⟨rfl, rfl⟩)
    (fun os started H enc _ => heapOnce_lifted os started H enc)

end Go.Proofs.Ytcdapnhcgbkikaa
