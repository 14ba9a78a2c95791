/- ValueTexts returns true: the text that the package writes of a value is the one that the reference writes, of whatever string and names. Conditions: the arguments hold together at most 1048576 values and letters; the listed library variables hold what the program's text lays in them, which the card ties to that text. -/
import Derived.Test.YtaambeficfiacaaGreatDoorVxL
import Derived.Test.YtaambeficfiacaaGreatDoorOpen
import Derived.Test.YtaambeficfiacaaGreatDoorRows
import Derived.Lib.LaidTab
import Derived.Test.YtaambeficfiacaaGreatDoorCards
import Derived.Test.YtaambeficfiacaaGreatDoorTie
import Derived.SevenTiedAt
import Derived.Deep.DeepWitnessRowRef
namespace Go.Proofs.YtaambeficfiacaaGreatDoor
open Go Go.ChangeShapes Go.WideShapes Go.ChangeAt Go.RowKit
open Go.WideMaps Go.WideElems
open Go.ChangeMaps (open_string)

theorem bulk_mem {H : Type} {d : DataW H} : ∀ {l : List (DataW H)}, d ∈ l → Rows.uptoBulk d ≤ Rows.uptoBulkAll l
  | _ :: _, .head _ => by unfold Rows.uptoBulkAll; omega
  | _ :: _, .tail _ h => by have := bulk_mem h; unfold Rows.uptoBulkAll; omega
theorem bulk_strs {H : Type} : ∀ ls : List ByteArray, Rows.uptoBulkAll (H := H) (ls.map fun s => DataW.lit (.string s.data.toList)) = ls.length + totB ls
  | [] => by unfold Rows.uptoBulkAll; simp [totB]
  | s :: ls => by
    rw [List.map_cons]
    unfold Rows.uptoBulkAll
    rw [bulk_strs ls, totB_cons, List.length_cons]
    unfold Rows.uptoBulk
    have : s.data.toList.length = s.size := by simp
    omega
theorem cells_name : Tryz.prog.cellsOf 9 = 1 := by kernel_rfl
set_option maxRecDepth 100000 in
theorem names_in {H : Type} {enc : TypeId × Value → H} (W : World) {a : Option Addr} {n c : Nat} {d : DataW H} {p : List MemPlace}
    (h : DataW.Trod enc Tryz.prog W 0 (fun _ => true) true 24 (.slice a n c) d p) : ∃ ls : List ByteArray, n = ls.length ∧ InC W a (ls.map Value.string) ∧ n + totB ls + 1 ≤ Rows.uptoBulk d := by
  obtain ⟨fuel, hf⟩ := h
  rcases Go.Deep.open_slice1 Tryz.underlying24 cells_name hf with ⟨hcs, hx⟩ | ⟨a', len, cap, m, q, V, D, Pl, hcs, _, hl, _, hm, hx, hi⟩
  · simp [Value.cells] at hcs
    obtain ⟨rfl, rfl, rfl⟩ := hcs
    injection hx with hx1 hx2
    subst hx1
    refine ⟨[], rfl, .inl rfl, ?_⟩
    unfold Rows.uptoBulk
    simp [totB]
  · simp [Value.cells] at hcs
    obtain ⟨rfl, rfl, rfl⟩ := hcs
    injection hx with hx1 hx2
    subst hx1
    simp only [if_true] at hm
    have h1 : ∀ i, i < n → ∃ s : ByteArray, W.cell? (a'.add i) = some (.string s) ∧ D i = .lit (.string s.data.toList) := by
      intro i hin
      obtain ⟨hc, ht⟩ := hi i (by omega)
      obtain ⟨s, e1, e2, -⟩ := DataW.trod_string Tryz.underlying9 ht
      injection e1 with e1
      exact ⟨s, by rw [hc, e1], (Prod.mk.inj e2).1⟩
    obtain ⟨ls, hls, hp⟩ := list_of n h1
    refine ⟨ls, hls.symm, ?_, ?_⟩
    · by_cases h0 : n = 0
      · exact .inl (by rw [List.eq_nil_of_length_eq_zero (show ls.length = 0 by omega)]; rfl)
      · obtain ⟨t0, ht0⟩ : ∃ t, ls[0]? = some t := ⟨ls[0], List.getElem?_eq_getElem (by omega)⟩
        have hc0 := (hp 0 t0 ht0).1
        obtain ⟨b, off, s⟩ := a'
        have hs : s = none := by simpa [Addr.add] using World.cell?_spot hc0
        subst hs
        refine .inr ⟨b, off, rfl, ?_, fun i u hu => ?_⟩
        · rw [Addr.add_lit] at hc0
          rcases Nat.lt_or_ge b W.heap.size with hlt | hge
          · exact hlt
          · simp [World.cell?, Array.getElem?_eq_none hge] at hc0
        · rw [List.getElem?_map] at hu
          obtain ⟨s, hs, rfl⟩ := Option.map_eq_some_iff.1 hu
          have := (hp i s hs).1
          rwa [Addr.add_lit] at this
    · have he : (List.range n).map D = ls.map fun s => DataW.lit (.string s.data.toList) := by
        apply List.ext_getElem?
        intro i
        by_cases hin : i < n
        · obtain ⟨s, hs⟩ : ∃ s, ls[i]? = some s := ⟨ls[i]'(by omega), List.getElem?_eq_getElem _⟩
          rw [List.getElem?_map, List.getElem?_range hin, List.getElem?_map, hs]
          exact congrArg some (hp i s hs).2
        · rw [List.getElem?_eq_none (by simp; omega), List.getElem?_eq_none (by simp; omega)]
      rw [he]
      unfold Rows.uptoBulk
      rw [bulk_strs, ← hls]
      omega
theorem tot_mem {s : ByteArray} : ∀ {ls : List ByteArray}, s ∈ ls → s.size ≤ totB ls
  | _ :: _, .head _ => by rw [totB_cons]; omega
  | _ :: _, .tail _ h => by have := tot_mem h; rw [totB_cons]; omega
theorem table_of_laid {W : World} (h : laidMetH Tryz.prog [("math/bits.deBruijn32tab", Rows.laid_math_bits_deBruijn32tab), ("math/bits.deBruijn64tab", Rows.laid_math_bits_deBruijn64tab), ("internal/strconv.uint64pow10", Rows.laid_internal_strconv_uint64pow10)] W) : TabOK W := by
  rw [MakeChecks.laidMetH_plain _ _ _ (by kernel_rfl)] at h
  have h2 := laidMet.tail (laidMet.tail (show laidMet Tryz.prog (_ :: _ :: ("internal/strconv.uint64pow10", Go.Lib.tabData .u64 Go.Lib.pow10Tab) :: []) W from h))
  exact Go.Lib.tabIs_of_head (g := 0) (t := 126) (e := 58) (n := 20) (by kernel_rfl) (by kernel_rfl) Tryz.underlying126 Tryz.underlying58 (by kernel_rfl) (by kernel_rfl) h2
/-- the variables that the row lists -/
def laidAll : List (String × DataW Unit) := [("math/bits.deBruijn32tab", Rows.laid_math_bits_deBruijn32tab), ("math/bits.deBruijn64tab", Rows.laid_math_bits_deBruijn64tab), ("internal/strconv.uint64pow10", Rows.laid_internal_strconv_uint64pow10)]
theorem door_met (os : Os) (args : Array Value) : laidMetH Tryz.prog laidAll ((World.laidAll Tryz.prog os laidAll).forCall (fun _ _ => 0) ⟨#[], args, []⟩).memory := by
  rw [MakeChecks.laidMetH_plain _ _ _ (by kernel_rfl)]
  exact laidMet_laidAll _ (by kernel_rfl) (by kernel_rfl)

set_option maxRecDepth 100000 in
theorem valueTexts_lifted (os : Os) (started : os.Started) (H : Type) (enc : TypeId × Value → H) (F : Stop.Interp) :
    ReturnsInHanded {} Tryz.checked os 3 .any ((Rows.OpenSpec.upto Rows.valueTextsSpec).preRow enc Tryz.prog Tryz.f3 Rows.valueTextsUptoRow.domain false Rows.valueTextsUptoRow.laid)
      (((Rows.OpenSpec.upto Rows.valueTextsSpec).at F).post enc Tryz.prog Tryz.f3 false true false false) := by
  obtain ⟨places, hx⟩ : ∃ places : List MemPlace, DataW.whole enc Tryz.prog ((World.laidAll Tryz.prog os laidAll).forCall (fun _ _ => 0) ⟨#[], #[.string ⟨#[]⟩, .slice none 0 0, .slice none 0 0], []⟩).memory Tryz.f3.params.toList Rows.valueTextsSpec.vars false #[.string ⟨#[]⟩, .slice none 0 0, .slice none 0 0].toList 8 = some ([.lit (.string []), .nil, .nil], [], places) := ⟨[], by kernel_rfl⟩
  have hok : Input.okWideB Tryz.checked.prog ((World.laidAll Tryz.prog os laidAll).forCall (fun _ _ => 0) ⟨#[], #[.string ⟨#[]⟩, .slice none 0 0, .slice none 0 0], []⟩) 3 ⟨#[], #[.string ⟨#[]⟩, .slice none 0 0, .slice none 0 0], []⟩ = true := by kernel_rfl
  refine returnsInHanded_of_row (C := Tryz.checked) (s := Rows.OpenSpec.upto Rows.valueTextsSpec) own started (by kernel_rfl) Tryz.func3
    ⟨World.laidAll Tryz.prog os laidAll, fun _ _ => 0, ⟨#[], #[.string ⟨#[]⟩, .slice none 0 0, .slice none 0 0], []⟩, rfl, World.shaped_of_ZipB (by kernel_rfl) (by kernel_rfl), (Input.okWide_of_okWideB (base := 0) hok).1, (Input.okWide_of_okWideB hok).2,
      OpenSpec.preRow_of_cond 8 hx (by kernel_rfl) (fun k hk => by cases hk; kernel_rfl) (by kernel_rfl) (door_met os _), by
        simp only [Assume.holds]
        exact ⟨by simp, by simp, fun _ => Modest.zero, by simp, by simp⟩⟩ ?_
  intro W base args ds gs before hval0 hW _ hcond hsz hL0 _ _
  have hbulk := hcond _ rfl
  have hval : ∀ (j : Nat) t v, Tryz.f3.params[j]? = some t → args[j]? = some v → Value.okWide Tryz.prog W .any base t v := hval0
  have hW' := hW
  obtain ⟨p, q, hA0, hV, rfl, hfz, hnd⟩ := hW
  have hA : DataW.TrodAll enc Tryz.prog W 0 (fun _ => true) true Tryz.f3.params.toList args.toList ds p := hA0
  rw [Tryz.params3] at hA hval
  obtain ⟨v0, v1, v2, d0, d1, d2, p0, p1, p2, rfl, rfl, rfl, h0, h1, h2⟩ := trodAll_three hA
  obtain ⟨rfl, rfl⟩ := trodVars_none hV
  obtain ⟨s0, rfl, rfl, rfl, -⟩ := open_string Tryz.underlying22 (hval 0 22 v0 rfl rfl) h0
  obtain ⟨a1, n1, c1, rfl⟩ := okWide_slice Tryz.underlying23 (hval 1 23 v1 rfl rfl)
  obtain ⟨hI1, hl1⟩ := ints_in W h1
  obtain ⟨a2, n2, c2, rfl⟩ := okWide_slice Tryz.underlying24 (hval 2 24 v2 rfl rfl)
  obtain ⟨ns, hn2, hI2, hb2⟩ := names_in W h2
  have hball := of_decide_eq_true hbulk
  have hm0 := Nat.le_trans (bulk_mem (d := DataW.lit (.string s0.data.toList)) (by simp)) hball
  have hm2 := Nat.le_trans (bulk_mem (d := d2) (by simp)) hball
  have hs0 : s0.size ≤ 281474976710656 := by
    have e : s0.data.toList.length = s0.size := by simp
    unfold Rows.uptoBulk at hm0
    omega
  refine (valueTexts_any s0 hs0 ns a2 a1 n1 c1 n2 c2 hl1 W hI1 ⟨table_of_laid hL0, hn2, by omega, fun s hs => by have := tot_mem hs; omega, hI2⟩).mono fun e W' ⟨he, hw⟩ => ?_
  subst he
  exact ⟨_, rfl, law_post hW' hw rfl (by kernel_rfl) (by
    intro t ht
    rw [Tryz.params3] at ht
    have hm : t ∈ [22, 23, 24] := ht
    have hall : ([22, 23, 24].all fun u => Tryz.prog.readableRec u && decide (u < Tryz.prog.types.size)) = true := by kernel_rfl
    have := List.all_eq_true.1 hall t hm
    simpa using this) rfl rfl rfl⟩

theorem valueTexts_row : Rows.ValueTextsUptoSaid :=
  OpenClaim.holds_of_cond 3 Tryz.f3 rfl rfl rfl rfl rfl rfl rfl ⟨rfl, rfl, rfl, rfl, rfl⟩ rfl rfl rfl rfl rfl (by kernel_rfl) Tryz.func3 (by kernel_rfl)
    (of_decide_eq_true (by kernel_rfl)) (by unfold Func.isWrapper; rw [if_neg (of_decide_eq_false (by kernel_rfl))]; exact ⟨rfl, rfl⟩)
    (fun os started H enc _ F => by rw [OpenClaim.pre_eq_preRow]; exact valueTexts_lifted os started H enc F)

theorem valueTexts_holds : Rows.ValueTextsUptoCardSaid :=
  Claim7.holds_tied_plain_at .later [] Rows.valueTextsUptoCard.laidKinds true Rows.valueTextsUptoCard.stood.harness Rows.valueTextsUptoCard.stood.looks
    valueTexts_row (fun _ h => by cases h) (by kernel_rfl) (fun _ h => by cases h) valueTextsUpto_row_tie rfl ⟨rfl, rfl⟩ (by kernel_rfl) rfl
    (fun f fn hf hfn => by
      obtain rfl : f = 3 := Option.some.inj ((show Tryz.prog.funcNamed Rows.valueTextsUptoRow.func = some 3 by kernel_rfl).symm.trans hf) |>.symm
      obtain rfl : fn = Tryz.f3 := (Option.some.inj (Tryz.func3.symm.trans hfn)).symm
      exact ⟨by kernel_rfl, fun j t ht => by
        rw [Tryz.params3] at ht
        have hm : t ∈ [22, 23, 24] := by simpa using Array.mem_of_getElem? ht
        have hall : ([22, 23, 24].all fun u => !Tryz.prog.wantsStandIn u) = true := by kernel_rfl
        exact (show Tryz.prog.wantsStandIn t = false by simpa using List.all_eq_true.1 hall t hm)⟩)
    (by kernel_rfl)
end Go.Proofs.YtaambeficfiacaaGreatDoor
