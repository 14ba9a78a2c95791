/- LayoutInsertsExactly returns true: Insert returns the specified tokens, or the specified error and position, for arbitrary tokens and for ascending ones with many keywords. Conditions: the arguments hold together at most 1048576 values and letters; the listed library variables hold what the program's text lays in them, which the card ties to that text. -/
import Derived.Test.YtoogbgmneabfnaaDoorG31
import Derived.Test.YtoogbgmneabfnaaDoorG32
import Derived.Test.YtoogbgmneabfnaaDoorCards
import Derived.Test.YtoogbgmneabfnaaDoorTie
import Derived.SevenTiedAt
import Derived.Deep.DeepWitnessRowRef
namespace Go.Proofs.YtoogbgmneabfnaaDoor
open Go Go.ChangeShapes Go.WideShapes Go.ChangeAt Go.RowKit
open Go.WideMaps Go.WideElems
open Go.ChangeMaps (open_string)

set_option maxRecDepth 100000 in
theorem layoutInsertsExactly_lifted (os : Os) (started : os.Started) (H : Type) (enc : TypeId × Value → H) (F : Stop.Interp) :
    ReturnsInHanded {} Tryd.checked os 3 .any ((Rows.OpenSpec.upto Rows.layoutInsertsExactlySpec).preRow enc Tryd.prog Tryd.f3 Rows.layoutInsertsExactlyUptoRow.domain false Rows.layoutInsertsExactlyUptoRow.laid)
      (((Rows.OpenSpec.upto Rows.layoutInsertsExactlySpec).at F).post enc Tryd.prog Tryd.f3 false true false false) := by
  obtain ⟨places, hx⟩ : ∃ places : List MemPlace, DataW.whole enc Tryd.prog ((World.doorLaid Tryd.prog 400 os).forCall (fun _ _ => 0) ⟨#[], #[.slice none 0 0, .slice none 0 0], []⟩).memory Tryd.f3.params.toList Rows.layoutInsertsExactlySpec.vars false #[.slice none 0 0, .slice none 0 0].toList 8 = some ([.nil, .nil], [], places) := ⟨[], by kernel_rfl⟩
  refine returnsInHanded_of_row (C := Tryd.checked) (s := Rows.OpenSpec.upto Rows.layoutInsertsExactlySpec) own started (by kernel_rfl) Tryd.func3
    (witness_row_atRef (enc := enc) (C := Tryd.checked) false (World.doorLaid Tryd.prog 400 os) #[.slice none 0 0, .slice none 0 0] rfl (by kernel_rfl) (by kernel_rfl) (by kernel_rfl)
      (OpenSpec.preRow_of_cond 8 hx (by kernel_rfl) (fun k hk => by cases hk; kernel_rfl) (by kernel_rfl) (door_met os _))) ?_
  intro W base args ds gs before hval0 hW _ hcond hsz hL0 _ _
  have hL : laidMetH Tryd.prog laidAll W := hL0
  have hbulk := hcond _ rfl
  have hval : ∀ (j : Nat) t v, Tryd.f3.params[j]? = some t → args[j]? = some v → Value.okWide Tryd.prog W .any base t v := hval0
  have hW' := hW
  obtain ⟨p, q, hA0, hV, rfl, hfz, hnd⟩ := hW
  have hA : DataW.TrodAll enc Tryd.prog W 0 (fun _ => true) true Tryd.f3.params.toList args.toList ds p := hA0
  rw [Tryd.params3] at hA hval
  obtain ⟨v0, v1, d0, d1, p0, p1, rfl, rfl, rfl, h0, h1⟩ := trodAll_two hA
  obtain ⟨rfl, rfl⟩ := trodVars_none hV
  obtain ⟨a1, n1, c1, rfl⟩ := okWide_slice Tryd.underlying22 (hval 0 22 v0 rfl rfl)
  obtain ⟨ts0, hts0, _, hd0⟩ := toks_in W h0
  obtain ⟨ts, hts, hi1, hlen, hwide⟩ := toks_wide W h0 (fun m hm => by simpa using List.all_eq_true.1 hsz m (DataW.weights_mem_each (j := 0) (t := 22) rfl rfl m hm))
  have hm : ts.length ≤ 200000000 := by
    rcases hd0 with ⟨_, h⟩ | ⟨elems, spare, he, hl⟩
    · omega
    · subst he
      have := bulk_slice hbulk (elems := elems) (spare := spare) (by simp)
      omega
  obtain ⟨a2, n2, c2, rfl⟩ := okWide_slice Tryd.underlying23 (hval 1 23 v1 rfl rfl)
  obtain ⟨hi2, hn2⟩ := ints_in W h1
  refine (layoutInserts_any W a1 n1 c1 a2 n2 c2 ts hts hi1 hm (fun t ht => by have := (hwide t ht).str; omega) hi2 hn2 (rangeVar_of_laid hL)).mono fun e W' ⟨he, hw⟩ => ?_
  subst he
  exact ⟨_, rfl, law_post hW' hw rfl (by kernel_rfl) (by
    intro t ht
    rw [Tryd.params3] at ht
    have hm : t ∈ [22, 23] := ht
    have hall : ([22, 23].all fun u => Tryd.prog.readableRec u && decide (u < Tryd.prog.types.size)) = true := by kernel_rfl
    have := List.all_eq_true.1 hall t hm
    simpa using this) rfl rfl rfl⟩

theorem layoutInsertsExactly_row : Rows.LayoutInsertsExactlyUptoSaid :=
  OpenClaim.holds_of_cond 3 Tryd.f3 rfl rfl rfl rfl rfl rfl rfl ⟨rfl, rfl, rfl, rfl, rfl⟩ rfl rfl rfl rfl rfl (by kernel_rfl) Tryd.func3 (by kernel_rfl)
    (of_decide_eq_true (by kernel_rfl)) (by unfold Func.isWrapper; rw [if_neg (of_decide_eq_false (by kernel_rfl))]; exact ⟨rfl, rfl⟩)
    (fun os started H enc _ F => by rw [OpenClaim.pre_eq_preRow]; exact layoutInsertsExactly_lifted os started H enc F)

theorem layoutInsertsExactly_holds : Rows.LayoutInsertsExactlyUptoCardSaid :=
  Claim7.holds_tied_plain_at .later [] Rows.layoutInsertsExactlyUptoCard.laidKinds true Rows.layoutInsertsExactlyUptoCard.stood.harness true
    layoutInsertsExactly_row (fun _ h => by cases h) (by kernel_rfl) (fun _ h => by cases h) layoutInsertsExactlyUpto_row_tie rfl ⟨rfl, rfl⟩ (by kernel_rfl) rfl
    (fun f fn hf hfn => by
      obtain rfl : f = 3 := Option.some.inj ((show Tryd.prog.funcNamed Rows.layoutInsertsExactlyUptoRow.func = some 3 by kernel_rfl).symm.trans hf) |>.symm
      obtain rfl : fn = Tryd.f3 := (Option.some.inj (Tryd.func3.symm.trans hfn)).symm
      exact ⟨by kernel_rfl, fun j t ht => by
        rw [Tryd.params3] at ht
        have hm : t ∈ [22, 23] := by simpa using Array.mem_of_getElem? ht
        have hall : ([22, 23].all fun u => !Tryd.prog.wantsStandIn u) = true := by kernel_rfl
        exact (show Tryd.prog.wantsStandIn t = false by simpa using List.all_eq_true.1 hall t hm)⟩)
    (by kernel_rfl)
end Go.Proofs.YtoogbgmneabfnaaDoor
