/- PatternIrrefutable returns true: an irrefutable pattern without tuples matches every value, and one with tuples matches every tuple of that shape. No conditions but that the arguments fit the memory that the form grants. -/
import Derived.Test.YtdifpemohdnolaaGreatPuI
import Derived.Test.YtdifpemohdnolaaGreatOpen
import Derived.Test.YtdifpemohdnolaaGreatRows
namespace Go.Proofs.YtdifpemohdnolaaGreat
open Go Go.ChangeShapes Go.WideShapes Go.ChangeAt Go.RowKit
open Go.WideMaps Go.WideElems
open Go.ChangeMaps (open_string)

theorem of_sized {H : Type} {enc : TypeId × Value → H} {a : Assume} {C : Checked} {os : Os} {f : FuncId} {fn : Func} {s : ChangeSpec} {conds : List PathCond} {apart : Bool} {Post : World → Array Value → Value → World → Prop}
    (h : ReturnsInHanded a C os f .any (fun w args => (s.pre enc C.prog fn conds apart w args ∧ True) ∧ sizedMet enc C.prog fn (OpenSpec.ofChange s) apart w args) Post) : ReturnsInHanded a C os f .any (s.pre6 enc C.prog fn conds apart) Post := by
  have e : (fun w args => (s.pre enc C.prog fn conds apart w args ∧ True) ∧ sizedMet enc C.prog fn (OpenSpec.ofChange s) apart w args) = s.pre6 enc C.prog fn conds apart := by
    funext w args
    unfold ChangeSpec.pre6
    rw [and_true]
  rw [← e]
  exact h

set_option maxRecDepth 100000 in
theorem patternIrrefutable_lifted (os : Os) (started : os.Started) (H : Type) (enc : TypeId × Value → H) :
    ReturnsInHanded {} Tryz.checked os 6 .any (Rows.patternIrrefutableSpec.pre6 enc Tryz.prog Tryz.f6 Rows.patternIrrefutableRow.domain false) (Rows.patternIrrefutableSpec.post enc Tryz.prog Tryz.f6 false true false false) := by
  refine of_sized (returnsInHanded_of_change_and (C := Tryz.checked) (X := fun _ _ => True) (fun _ _ _ _ h => h) own started (by kernel_rfl) Tryz.func6
    (by
      obtain ⟨w, tape, i, h1, h2, h3, h4, ⟨h5, h6⟩, h7⟩ := (ChangeSpec.witness6 (enc := enc) (os := os) (f := 6) (fn := Tryz.f6) (s := Rows.patternIrrefutableSpec) (conds := Rows.patternIrrefutableRow.domain) (C := Tryz.checked) false ⟨#[], #[.slice none 0 0, .string ⟨#[]⟩], []⟩ 8 (by kernel_rfl) (by kernel_rfl) (by kernel_rfl) (by kernel_rfl))
      exact ⟨w, tape, i, h1, h2, h3, h4, ⟨⟨h5, trivial⟩, h6⟩, h7⟩) ?_)
  intro W base args ds gs before hval0 hW _ hsz _ _
  have hval : ∀ (j : Nat) t v, Tryz.f6.params[j]? = some t → args[j]? = some v → Value.okWide Tryz.prog W .any base t v := hval0
  have hW' := hW
  obtain ⟨p, q, hA0, hV, rfl, hfz, hnd⟩ := hW
  have hA : DataW.TrodAll enc Tryz.prog W 0 (fun _ => true) true Tryz.f6.params.toList args.toList ds p := hA0
  rw [Tryz.params6] at hA hval
  obtain ⟨v0, v1, d0, d1, p0, p1, rfl, rfl, rfl, h0, h1⟩ := trodAll_two hA
  obtain ⟨rfl, rfl⟩ := trodVars_none hV
  obtain ⟨a0, n0, c0, rfl⟩ := okWide_slice Tryz.underlying25 (hval 0 25 v0 rfl rfl)
  obtain ⟨hI0, hl0⟩ := ints_in W h0
  obtain ⟨s1, rfl, rfl, rfl, -⟩ := open_string Tryz.underlying23 (hval 1 23 v1 rfl rfl) h1
  have hs1 : s1.size ≤ 281474976710656 := by
    have h1 := sized_string hsz (j := 1) (bytes := s1.data.toList) rfl rfl
    have h2 := reachBytes_lt
    have h3 : s1.data.toList.length = s1.size := by simp
    omega
  refine (patternIrrefutable_any s1 hs1 a0 n0 c0 hl0 W hI0).mono fun e W' ⟨he, hw⟩ => ?_
  subst he
  exact ⟨_, rfl, law_post hW' hw rfl (by kernel_rfl) (by
    intro t ht
    rw [Tryz.params6] at ht
    have hm : t ∈ [25, 23] := ht
    have hall : ([25, 23].all fun u => Tryz.prog.readableRec u && decide (u < Tryz.prog.types.size)) = true := by kernel_rfl
    have := List.all_eq_true.1 hall t hm
    simpa using this) rfl rfl rfl⟩

theorem patternIrrefutable_holds : Rows.PatternIrrefutableSaid :=
  OpenClaim.holds_of_wide 6 Tryz.f6 rfl rfl rfl rfl rfl rfl rfl ⟨rfl, rfl, rfl, rfl, rfl⟩ rfl rfl rfl rfl rfl (by kernel_rfl) Tryz.func6 (by kernel_rfl)
    (of_decide_eq_true (by kernel_rfl)) (by unfold Func.isWrapper; rw [if_neg (of_decide_eq_false (by kernel_rfl))]; exact ⟨rfl, rfl⟩)
    (fun os started H enc _ => patternIrrefutable_lifted os started H enc)

end Go.Proofs.YtdifpemohdnolaaGreat
