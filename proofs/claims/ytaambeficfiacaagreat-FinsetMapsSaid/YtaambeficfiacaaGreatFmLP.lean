/- FinsetMaps returns true: the functions on maps return the specified results for arbitrary and generated values. No conditions but that the arguments fit the memory that the form grants. -/
import Derived.Test.YtaambeficfiacaaGreatFmL
import Derived.Test.YtaambeficfiacaaGreatOpen
import Derived.Test.YtaambeficfiacaaGreatRows
namespace Go.Proofs.YtaambeficfiacaaGreat
open Go Go.ChangeShapes Go.WideShapes Go.ChangeAt Go.RowKit
open Go.WideMaps Go.WideElems
open Go.ChangeMaps (open_string)

theorem of_sized {H : Type} {enc : TypeId × Value → H} {a : Assume} {C : Checked} {os : Os} {f : FuncId} {fn : Func} {s : ChangeSpec} {conds : List PathCond} {apart : Bool} {Post : World → Array Value → Value → World → Prop}
    (h : ReturnsInHanded a C os f .any (fun w args => (s.pre enc C.prog fn conds apart w args ∧ True) ∧ sizedMet enc C.prog fn (OpenSpec.ofChange s) apart w args) Post) : ReturnsInHanded a C os f .any (s.pre6 enc C.prog fn conds apart) Post := by
  have e : (fun w args => (s.pre enc C.prog fn conds apart w args ∧ True) ∧ sizedMet enc C.prog fn (OpenSpec.ofChange s) apart w args) = s.pre6 enc C.prog fn conds apart := by
    funext w args
    unfold ChangeSpec.pre6
    rw [and_true]
  rw [← e]
  exact h

set_option maxRecDepth 100000 in
theorem finsetMaps_lifted (os : Os) (started : os.Started) (H : Type) (enc : TypeId × Value → H) :
    ReturnsInHanded {} Tryz.checked os 4 .any (Rows.finsetMapsSpec.pre6 enc Tryz.prog Tryz.f4 Rows.finsetMapsRow.domain false) (Rows.finsetMapsSpec.post enc Tryz.prog Tryz.f4 false true false false) := by
  refine of_sized (returnsInHanded_of_change_and (C := Tryz.checked) (X := fun _ _ => True) (fun _ _ _ _ h => h) own started (by kernel_rfl) Tryz.func4
    (by
      obtain ⟨w, tape, i, h1, h2, h3, h4, ⟨h5, h6⟩, h7⟩ := (ChangeSpec.witness6 (enc := enc) (os := os) (f := 4) (fn := Tryz.f4) (s := Rows.finsetMapsSpec) (conds := Rows.finsetMapsRow.domain) (C := Tryz.checked) false ⟨#[], #[.string ⟨#[]⟩, .string ⟨#[]⟩, .string ⟨#[]⟩, .slice none 0 0], []⟩ 8 (by kernel_rfl) (by kernel_rfl) (by kernel_rfl) (by kernel_rfl))
      exact ⟨w, tape, i, h1, h2, h3, h4, ⟨⟨h5, trivial⟩, h6⟩, h7⟩) ?_)
  intro W base args ds gs before hval0 hW _ hsz _ _
  have hval : ∀ (j : Nat) t v, Tryz.f4.params[j]? = some t → args[j]? = some v → Value.okWide Tryz.prog W .any base t v := hval0
  have hW' := hW
  obtain ⟨p, q, hA0, hV, rfl, hfz, hnd⟩ := hW
  have hA : DataW.TrodAll enc Tryz.prog W 0 (fun _ => true) true Tryz.f4.params.toList args.toList ds p := hA0
  rw [Tryz.params4] at hA hval
  obtain ⟨v0, v1, v2, v3, d0, d1, d2, d3, p0, p1, p2, p3, rfl, rfl, rfl, h0, h1, h2, h3⟩ := trodAll_four hA
  obtain ⟨rfl, rfl⟩ := trodVars_none hV
  obtain ⟨s0, rfl, rfl, rfl, -⟩ := open_string Tryz.underlying22 (hval 0 22 v0 rfl rfl) h0
  have hs0 : s0.size ≤ 281474976710656 := by
    have h1 := sized_string hsz (j := 0) (bytes := s0.data.toList) rfl rfl
    have h2 := reachBytes_lt
    have h3 : s0.data.toList.length = s0.size := by simp
    omega
  obtain ⟨s1, rfl, rfl, rfl, -⟩ := open_string Tryz.underlying22 (hval 1 22 v1 rfl rfl) h1
  have hs1 : s1.size ≤ 281474976710656 := by
    have h1 := sized_string hsz (j := 1) (bytes := s1.data.toList) rfl rfl
    have h2 := reachBytes_lt
    have h3 : s1.data.toList.length = s1.size := by simp
    omega
  obtain ⟨s2, rfl, rfl, rfl, -⟩ := open_string Tryz.underlying22 (hval 2 22 v2 rfl rfl) h2
  have hs2 : s2.size ≤ 281474976710656 := by
    have h1 := sized_string hsz (j := 2) (bytes := s2.data.toList) rfl rfl
    have h2 := reachBytes_lt
    have h3 : s2.data.toList.length = s2.size := by simp
    omega
  obtain ⟨a3, n3, c3, rfl⟩ := okWide_slice Tryz.underlying23 (hval 3 23 v3 rfl rfl)
  obtain ⟨hI3, hl3⟩ := ints_in W h3
  refine (finsetMaps_any s0 s1 s2 hs0 hs1 hs2 a3 n3 c3 hl3 W hI3).mono fun e W' ⟨he, hw⟩ => ?_
  subst he
  exact ⟨_, rfl, law_post hW' hw rfl (by kernel_rfl) (by
    intro t ht
    rw [Tryz.params4] at ht
    have hm : t ∈ [22, 22, 22, 23] := ht
    have hall : ([22, 22, 22, 23].all fun u => Tryz.prog.readableRec u && decide (u < Tryz.prog.types.size)) = true := by kernel_rfl
    have := List.all_eq_true.1 hall t hm
    simpa using this) rfl rfl rfl⟩

theorem finsetMaps_holds : Rows.FinsetMapsSaid :=
  OpenClaim.holds_of_wide 4 Tryz.f4 rfl rfl rfl rfl rfl rfl rfl ⟨rfl, rfl, rfl, rfl, rfl⟩ rfl rfl rfl rfl rfl (by kernel_rfl) Tryz.func4 (by kernel_rfl)
    (of_decide_eq_true (by kernel_rfl)) (by unfold Func.isWrapper; rw [if_neg (of_decide_eq_false (by kernel_rfl))]; exact ⟨rfl, rfl⟩)
    (fun os started H enc _ => finsetMaps_lifted os started H enc)

end Go.Proofs.YtaambeficfiacaaGreat
