/- ValueMakes returns true: the values that the package makes are those that the reference makes, of whatever parts. Conditions: the arguments hold together at most 1048576 values and letters; the listed library variables hold what the program's text lays in them, which the card ties to that text. -/
import Derived.Test.YtmaboodfgmbdjaaGreatDoorVmB
import Derived.Test.YtmaboodfgmbdjaaGreatDoorOpen
import Derived.Test.YtmaboodfgmbdjaaGreatDoorRows
import Derived.Test.YtmaboodfgmbdjaaGreatDoorCards
import Derived.Test.YtmaboodfgmbdjaaGreatDoorTie
import Derived.SevenTiedAt
import Derived.Deep.DeepWitnessRowRef
namespace Go.Proofs.YtmaboodfgmbdjaaGreatDoor
open Go Go.ChangeShapes Go.WideShapes Go.ChangeAt Go.RowKit
open Go.WideMaps Go.WideElems
open Go.ChangeMaps (open_string)

theorem trodAll_six {H : Type} {enc : TypeId × Value → H} {P : Program} {w : World} {base : Nat} {spare : Nat → Bool} {held : Bool} {t0 t1 t2 t3 t4 t5 : TypeId} {args : Array Value} {ds : List (DataW H)} {ps : List MemPlace} (h : DataW.TrodAll enc P w base spare held [t0, t1, t2, t3, t4, t5] args.toList ds ps) :
    ∃ v0 v1 v2 v3 v4 v5 d0 d1 d2 d3 d4 d5 p0 p1 p2 p3 p4 p5, args = #[v0, v1, v2, v3, v4, v5] ∧ ds = [d0, d1, d2, d3, d4, d5] ∧ ps = p0 ++ p1 ++ p2 ++ p3 ++ p4 ++ p5 ∧ DataW.Trod enc P w base spare held t0 v0 d0 p0 ∧ DataW.Trod enc P w base spare held t1 v1 d1 p1 ∧ DataW.Trod enc P w base spare held t2 v2 d2 p2 ∧ DataW.Trod enc P w base spare held t3 v3 d3 p3 ∧ DataW.Trod enc P w base spare held t4 v4 d4 p4 ∧ DataW.Trod enc P w base spare held t5 v5 d5 p5 := by
  obtain ⟨v0, vs0, d0, ds0, p0, q0, hargs, rfl, rfl, hd0, hr0⟩ := trodAll_cons h
  obtain ⟨v1, vs1, d1, ds1, p1, q1, rfl, rfl, rfl, hd1, hr1⟩ := trodAll_cons hr0
  obtain ⟨v2, vs2, d2, ds2, p2, q2, rfl, rfl, rfl, hd2, hr2⟩ := trodAll_cons hr1
  obtain ⟨v3, vs3, d3, ds3, p3, q3, rfl, rfl, rfl, hd3, hr3⟩ := trodAll_cons hr2
  obtain ⟨v4, vs4, d4, ds4, p4, q4, rfl, rfl, rfl, hd4, hr4⟩ := trodAll_cons hr3
  obtain ⟨v5, vs5, d5, ds5, p5, q5, rfl, rfl, rfl, hd5, hr5⟩ := trodAll_cons hr4
  obtain ⟨rfl, rfl, rfl⟩ := trodAll_nil hr5
  exact ⟨v0, v1, v2, v3, v4, v5, d0, d1, d2, d3, d4, d5, p0, p1, p2, p3, p4, p5, by cases args; simp_all, rfl, by simp, hd0, hd1, hd2, hd3, hd4, hd5⟩
theorem bulk_mem {H : Type} {d : DataW H} : ∀ {l : List (DataW H)}, d ∈ l → Rows.uptoBulk d ≤ Rows.uptoBulkAll l
  | _ :: _, .head _ => by unfold Rows.uptoBulkAll; omega
  | _ :: _, .tail _ h => by have := bulk_mem h; unfold Rows.uptoBulkAll; omega
theorem bulk_strs {H : Type} : ∀ ls : List ByteArray, Rows.uptoBulkAll (H := H) (ls.map fun s => DataW.lit (.string s.data.toList)) = ls.length + totB ls
  | [] => by unfold Rows.uptoBulkAll; simp [totB]
  | s :: ls => by
    rw [List.map_cons]
    unfold Rows.uptoBulkAll
    rw [bulk_strs ls, totB_cons, List.length_cons]
    unfold Rows.uptoBulk
    have : s.data.toList.length = s.size := by simp
    omega
theorem cells_val : Tryz.prog.cellsOf 27 = 1 := by kernel_rfl
set_option maxRecDepth 100000 in
theorem vals_in {H : Type} {enc : TypeId × Value → H} (W : World) {a : Option Addr} {n c : Nat} {d : DataW H} {p : List MemPlace}
    (h : DataW.Trod enc Tryz.prog W 0 (fun _ => true) true 22 (.slice a n c) d p) : ∃ ls : List ByteArray, n = ls.length ∧ InC W a (ls.map Value.string) ∧ n + totB ls + 1 ≤ Rows.uptoBulk d := by
  obtain ⟨fuel, hf⟩ := h
  rcases Go.Deep.open_slice1 Tryz.underlying22 cells_val hf with ⟨hcs, hx⟩ | ⟨a', len, cap, m, q, V, D, Pl, hcs, _, hl, _, hm, hx, hi⟩
  · simp [Value.cells] at hcs
    obtain ⟨rfl, rfl, rfl⟩ := hcs
    injection hx with hx1 hx2
    subst hx1
    refine ⟨[], rfl, .inl rfl, ?_⟩
    unfold Rows.uptoBulk
    simp [totB]
  · simp [Value.cells] at hcs
    obtain ⟨rfl, rfl, rfl⟩ := hcs
    injection hx with hx1 hx2
    subst hx1
    simp only [if_true] at hm
    have h1 : ∀ i, i < n → ∃ s : ByteArray, W.cell? (a'.add i) = some (.string s) ∧ D i = .lit (.string s.data.toList) := by
      intro i hin
      obtain ⟨hc, ht⟩ := hi i (by omega)
      obtain ⟨s, e1, e2, -⟩ := DataW.trod_string Tryz.underlying27 ht
      injection e1 with e1
      exact ⟨s, by rw [hc, e1], (Prod.mk.inj e2).1⟩
    obtain ⟨ls, hls, hp⟩ := list_of n h1
    refine ⟨ls, hls.symm, ?_, ?_⟩
    · by_cases h0 : n = 0
      · exact .inl (by rw [List.eq_nil_of_length_eq_zero (show ls.length = 0 by omega)]; rfl)
      · obtain ⟨t0, ht0⟩ : ∃ t, ls[0]? = some t := ⟨ls[0], List.getElem?_eq_getElem (by omega)⟩
        have hc0 := (hp 0 t0 ht0).1
        obtain ⟨b, off, s⟩ := a'
        have hs : s = none := by simpa [Addr.add] using World.cell?_spot hc0
        subst hs
        refine .inr ⟨b, off, rfl, ?_, fun i u hu => ?_⟩
        · rw [Addr.add_lit] at hc0
          rcases Nat.lt_or_ge b W.heap.size with hlt | hge
          · exact hlt
          · simp [World.cell?, Array.getElem?_eq_none hge] at hc0
        · rw [List.getElem?_map] at hu
          obtain ⟨s, hs, rfl⟩ := Option.map_eq_some_iff.1 hu
          have := (hp i s hs).1
          rwa [Addr.add_lit] at this
    · have he : (List.range n).map D = ls.map fun s => DataW.lit (.string s.data.toList) := by
        apply List.ext_getElem?
        intro i
        by_cases hin : i < n
        · obtain ⟨s, hs⟩ : ∃ s, ls[i]? = some s := ⟨ls[i]'(by omega), List.getElem?_eq_getElem _⟩
          rw [List.getElem?_map, List.getElem?_range hin, List.getElem?_map, hs]
          exact congrArg some (hp i s hs).2
        · rw [List.getElem?_eq_none (by simp; omega), List.getElem?_eq_none (by simp; omega)]
      rw [he]
      unfold Rows.uptoBulk
      rw [bulk_strs, ← hls]
      omega
theorem larg_of {n b : Nat} {ls : List ByteArray} (hn : n = ls.length) (h : n + totB ls + 1 ≤ b) (hb : b ≤ 1048576) : LArg n ls := by
  refine ⟨hn, by omega, fun s hs => ?_, fun hall => ?_⟩
  · have h2 : s.size ≤ totB ls := by
      clear hn h
      induction ls with
      | nil => cases hs
      | cons a l ih =>
        rw [totB_cons]
        rcases List.mem_cons.1 hs with rfl | hs
        · omega
        · have := ih hs; omega
    omega
  · have h2 := tot_two (d := 32) fun s hs => List.all_eq_true.1 hall s hs
    omega
/-- the variables that the row lists -/
def laidAll : List (String × DataW Unit) := [("math/bits.deBruijn32tab", Rows.laid_math_bits_deBruijn32tab), ("math/bits.deBruijn64tab", Rows.laid_math_bits_deBruijn64tab), ("internal/strconv.uint64pow10", Rows.laid_internal_strconv_uint64pow10)]
theorem door_met (os : Os) (args : Array Value) : laidMetH Tryz.prog laidAll ((World.laidAll Tryz.prog os laidAll).forCall (fun _ _ => 0) ⟨#[], args, []⟩).memory := by
  rw [MakeChecks.laidMetH_plain _ _ _ (by kernel_rfl)]
  exact laidMet_laidAll _ (by kernel_rfl) (by kernel_rfl)

set_option maxRecDepth 100000 in
theorem valueMakes_lifted (os : Os) (started : os.Started) (H : Type) (enc : TypeId × Value → H) (F : Stop.Interp) :
    ReturnsInHanded {} Tryz.checked os 3 .any ((Rows.OpenSpec.upto Rows.valueMakesSpec).preRow enc Tryz.prog Tryz.f3 Rows.valueMakesUptoRow.domain false Rows.valueMakesUptoRow.laid)
      (((Rows.OpenSpec.upto Rows.valueMakesSpec).at F).post enc Tryz.prog Tryz.f3 false true false false) := by
  obtain ⟨places, hx⟩ : ∃ places : List MemPlace, DataW.whole enc Tryz.prog ((World.laidAll Tryz.prog os laidAll).forCall (fun _ _ => 0) ⟨#[], #[.int .i64 0, .bool false, .int .i64 0, .slice none 0 0, .slice none 0 0, .slice none 0 0], []⟩).memory Tryz.f3.params.toList Rows.valueMakesSpec.vars false #[.int .i64 0, .bool false, .int .i64 0, .slice none 0 0, .slice none 0 0, .slice none 0 0].toList 8 = some ([.lit (.int .i64 0), .lit (.bool false), .lit (.int .i64 0), .nil, .nil, .nil], [], places) := ⟨[], by kernel_rfl⟩
  have hok : Input.okWideB Tryz.checked.prog ((World.laidAll Tryz.prog os laidAll).forCall (fun _ _ => 0) ⟨#[], #[.int .i64 0, .bool false, .int .i64 0, .slice none 0 0, .slice none 0 0, .slice none 0 0], []⟩) 3 ⟨#[], #[.int .i64 0, .bool false, .int .i64 0, .slice none 0 0, .slice none 0 0, .slice none 0 0], []⟩ = true := by kernel_rfl
  refine returnsInHanded_of_row (C := Tryz.checked) (s := Rows.OpenSpec.upto Rows.valueMakesSpec) own started (by kernel_rfl) Tryz.func3
    ⟨World.laidAll Tryz.prog os laidAll, fun _ _ => 0, ⟨#[], #[.int .i64 0, .bool false, .int .i64 0, .slice none 0 0, .slice none 0 0, .slice none 0 0], []⟩, rfl, World.shaped_of_ZipB (by kernel_rfl) (by kernel_rfl), (Input.okWide_of_okWideB (base := 0) hok).1, (Input.okWide_of_okWideB hok).2,
      OpenSpec.preRow_of_cond 8 hx (by kernel_rfl) (fun k hk => by cases hk; kernel_rfl) (by kernel_rfl) (door_met os _), by
        simp only [Assume.holds]
        exact ⟨by simp, by simp, fun _ => Modest.zero, by simp, by simp⟩⟩ ?_
  intro W base args ds gs before hval0 hW _ hcond hsz hL0 _ _
  have hbulk := hcond _ rfl
  have hval : ∀ (j : Nat) t v, Tryz.f3.params[j]? = some t → args[j]? = some v → Value.okWide Tryz.prog W .any base t v := hval0
  have hW' := hW
  obtain ⟨p, q, hA0, hV, rfl, hfz, hnd⟩ := hW
  have hA : DataW.TrodAll enc Tryz.prog W 0 (fun _ => true) true Tryz.f3.params.toList args.toList ds p := hA0
  rw [Tryz.params3] at hA hval
  obtain ⟨v0, v1, v2, v3, v4, v5, d0, d1, d2, d3, d4, d5, p0, p1, p2, p3, p4, p5, rfl, rfl, rfl, h0, h1, h2, h3, h4, h5⟩ := trodAll_six hA
  obtain ⟨rfl, rfl⟩ := trodVars_none hV
  obtain ⟨z0, rfl, rfl, rfl, wz0⟩ := open_int Tryz.underlying2 (hval 0 2 v0 rfl rfl) h0
  obtain ⟨b1, rfl, rfl, rfl⟩ := open_bool Tryz.underlying4 (hval 1 4 v1 rfl rfl) h1
  obtain ⟨z2, rfl, rfl, rfl, wz2⟩ := open_int Tryz.underlying3 (hval 2 3 v2 rfl rfl) h2
  obtain ⟨a3, n3, c3, rfl⟩ := okWide_slice Tryz.underlying22 (hval 3 22 v3 rfl rfl)
  obtain ⟨ls, hn3, hI3, hb3⟩ := vals_in W h3
  obtain ⟨a4, n4, c4, rfl⟩ := okWide_slice Tryz.underlying22 (hval 4 22 v4 rfl rfl)
  obtain ⟨ms, hn4, hI4, hb4⟩ := vals_in W h4
  obtain ⟨a5, n5, c5, rfl⟩ := okWide_slice Tryz.underlying23 (hval 5 23 v5 rfl rfl)
  obtain ⟨hI5, hl5⟩ := ints_in W h5
  have hball := of_decide_eq_true hbulk
  have hm3 := Nat.le_trans (bulk_mem (d := d3) (by simp)) hball
  have hm4 := Nat.le_trans (bulk_mem (d := d4) (by simp)) hball
  refine (valueMakes_any z0 z2 (bounds_i64 wz2) b1 ls ms a3 a4 a5 n3 c3 n4 c4 n5 c5 (larg_of hn3 hb3 hm3) (larg_of hn4 hb4 hm4) hl5 W hI3 hI4 hI5).mono fun e W' ⟨he, hw⟩ => ?_
  subst he
  exact ⟨_, rfl, law_post hW' hw rfl (by kernel_rfl) (by
    intro t ht
    rw [Tryz.params3] at ht
    have hm : t ∈ [2, 4, 3, 22, 22, 23] := ht
    have hall : ([2, 4, 3, 22, 22, 23].all fun u => Tryz.prog.readableRec u && decide (u < Tryz.prog.types.size)) = true := by kernel_rfl
    have := List.all_eq_true.1 hall t hm
    simpa using this) rfl rfl rfl⟩

theorem valueMakes_row : Rows.ValueMakesUptoSaid :=
  OpenClaim.holds_of_cond 3 Tryz.f3 rfl rfl rfl rfl rfl rfl rfl ⟨rfl, rfl, rfl, rfl, rfl⟩ rfl rfl rfl rfl rfl (by kernel_rfl) Tryz.func3 (by kernel_rfl)
    (of_decide_eq_true (by kernel_rfl)) (by unfold Func.isWrapper; rw [if_neg (of_decide_eq_false (by kernel_rfl))]; exact ⟨rfl, rfl⟩)
    (fun os started H enc _ F => by rw [OpenClaim.pre_eq_preRow]; exact valueMakes_lifted os started H enc F)

theorem valueMakes_holds : Rows.ValueMakesUptoCardSaid :=
  Claim7.holds_tied_plain_at .later [] Rows.valueMakesUptoCard.laidKinds true Rows.valueMakesUptoCard.stood.harness Rows.valueMakesUptoCard.stood.looks
    valueMakes_row (fun _ h => by cases h) (by kernel_rfl) (fun _ h => by cases h) valueMakesUpto_row_tie rfl ⟨rfl, rfl⟩ (by kernel_rfl) rfl
    (fun f fn hf hfn => by
      obtain rfl : f = 3 := Option.some.inj ((show Tryz.prog.funcNamed Rows.valueMakesUptoRow.func = some 3 by kernel_rfl).symm.trans hf) |>.symm
      obtain rfl : fn = Tryz.f3 := (Option.some.inj (Tryz.func3.symm.trans hfn)).symm
      exact ⟨by kernel_rfl, fun j t ht => by
        rw [Tryz.params3] at ht
        have hm : t ∈ [2, 4, 3, 22, 22, 23] := by simpa using Array.mem_of_getElem? ht
        have hall : ([2, 4, 3, 22, 22, 23].all fun u => !Tryz.prog.wantsStandIn u) = true := by kernel_rfl
        exact (show Tryz.prog.wantsStandIn t = false by simpa using List.all_eq_true.1 hall t hm)⟩)
    (by kernel_rfl)
end Go.Proofs.YtmaboodfgmbdjaaGreatDoor
