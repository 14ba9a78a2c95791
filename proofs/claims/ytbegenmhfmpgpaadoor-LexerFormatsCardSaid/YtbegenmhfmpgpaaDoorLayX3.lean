/- The statements' tokens: someTokens gives at most 40 tokens that lie in memory. No conditions. -/
import Derived.Test.YtbegenmhfmpgpaaDoorLayX2
namespace Go.Proofs.YtbegenmhfmpgpaaDoor
open Go.RowKit M

def SomePost (w : World) (e : Ending) (w' : World) : Prop :=
  ∃ v us, e = .returned v ∧ w'.ownsRow w.heap.size 25 5 v us.length (toksCells us) ∧ us.length ≤ 40 ∧ (∀ u ∈ us, WideTok u) ∧ Below w.heap.size w w'

set_option maxRecDepth 100000 in
set_option maxHeartbeats 3200000 in
theorem someTokens_any (w : World) (A : Option Addr) (n c : Nat) (ts : List Tok) (hn : n = ts.length) (hA : InToks w A ts) (hw : ∀ t ∈ ts, WideTok t) :
    Calls Tryd.prog 8 #[.slice A n c] w (SomePost w) := by
  have HA := Lib.hid hA
  have HW := Lib.hid hw
  subst hn
  clear hA hw
  go_enter Tryd.func8, Tryd.ntmps8
  go_wp2_with fail
  go_loopw [3, 4] (fun v i wr => ∃ us : List Tok, i = .int .i64 us.length ∧ us.length ≤ 40 ∧ us.length ≤ ts.length ∧ Hid (∀ u ∈ us, WideTok u) ∧ Hid (wr.ownsRow w.heap.size 25 5 v us.length (toksCells us)) ∧ Hid (Below w.heap.size w wr)) (fun _ i _ => 40 - (intOf i).toNat)
  case atStart => exact ⟨[], rfl, by simp, by simp, by intro u hu; simp at hu, World.ownsRow_nil _ _ _ _, Below.refl _ _⟩
  case round =>
    obtain ⟨us, rfl, hk, hk2, hU, hO, hB⟩ := hrel
    obtain ⟨A3, c3, rfl⟩ := owns_form hO.out
    by_cases hlt : us.length < ts.length ∧ us.length < 40
    · obtain ⟨hlt1, hlt2⟩ := hlt
      obtain ⟨⟨t, a, b⟩, ht⟩ : ∃ t, ts[us.length]? = some t := ⟨ts[us.length], List.getElem?_eq_getElem hlt1⟩
      have hHA := HA.out.below hB.out
      clear HA
      rcases hHA with hnil | ⟨bb, off, rfl, hbb, hcell⟩
      · rw [hnil] at hlt1; simp at hlt1
      have x0 := hcell _ _ ht 0 _ rfl
      have x1 := hcell _ _ ht 1 _ rfl
      have x2 := hcell _ _ ht 2 _ rfl
      have x3 := hcell _ _ ht 3 _ rfl
      have x4 := hcell _ _ ht 4 _ rfl
      simp only [Nat.add_zero] at x0
      have HWT := Lib.hid (HW.out _ (List.mem_of_getElem? ht))
      obtain ⟨i0, hi0, hiz0, hiz1, hiz2⟩ := info_parts token_info
      clear hcell ht
      go_wp2_with fail
      refine (some_any t a b HWT.out _).mono ?_
      rintro e w1 ⟨⟨⟨kd, nu, st, er⟩, a2, b2⟩, rfl, hwu, hb1⟩
      have HWU := Lib.hid hwu
      have HO1 := Lib.hid (owns_below hO.out hb1)
      have HB1 := Lib.hid (hB.out.trans (hb1.mono hB.out.size))
      have hz1 := HB1.out.size
      clear hb1 hO hB hwu x0 x1 x2 x3 x4
      simp only
      go_wp2_with (at_builtin; refine wpList_append_own _ rfl _ _ 26 rfl w.heap.size 25 i0 _ 5 48 Tryd.underlying26 hi0 hiz0 hiz1 hiz2 rfl (by decide) _ _ _ rfl (HO1.out.alloc _) ⟨w1.heap.size, 0, none⟩ 1 1 (tokCells (⟨kd, nu, st, er⟩, (a2, b2))) rfl rfl (World.news_of_block (cs := #[.int .i64 kd, .int .i64 nu, .string (S st), .int .i64 a2, .int .i64 b2]) (t := 25) (fr := (0, 0)) (heap_alloc_new w1 _)) (tok_one _) (by unfold maxLen; omega) (by omega) (by simp; omega) ?_; intro v5 w5 hown5 hgrow5 _)
      have HO5 : Hid (w5.ownsRow w.heap.size 25 5 v5 (us ++ [((⟨kd, nu, st, er⟩, (a2, b2)) : Tok)]).length (toksCells (us ++ [((⟨kd, nu, st, er⟩, (a2, b2)) : Tok)]))) := by
        show World.ownsRow _ _ _ _ _ _ _
        rw [List.length_append, ← toks_snoc]
        exact hown5
      have HB5 : Hid (Below w.heap.size w w5) := by
        refine (HB1.out.alloc hz1 _).trans ⟨hgrow5.os, hgrow5.tape, hgrow5.output, hgrow5.size, fun j hj => hgrow5.block j (by simp; omega) (fun e => ?_)⟩
        have := (HO1.out.lt j e.symm).1; omega
      have HU5 : Hid (∀ u ∈ us ++ [((⟨kd, nu, st, er⟩, (a2, b2)) : Tok)], WideTok u) := by
        intro u hu
        rcases List.mem_append.1 hu with hu | hu
        · exact hU.out u hu
        · rw [List.mem_singleton] at hu; subst hu; exact HWU.out
      clear hown5 hgrow5
      go_roundw
      case rel => exact ⟨us ++ [((⟨kd, nu, st, er⟩, (a2, b2)) : Tok)], by simp, by simp; omega, by simp; omega, HU5, HO5, HB5⟩
      case measure => simp [intOf]; omega
    · have hcase : (us.length < ts.length ∧ ¬ us.length < 40) ∨ ¬ us.length < ts.length := by omega
      clear HA HW
      rcases hcase with ⟨h1, h2⟩ | h1
      all_goals
        go_wp2_with fail
        go_ret
        exact ⟨_, us, rfl, hO.out, hk, hU.out, hB.out⟩

end Go.Proofs.YtbegenmhfmpgpaaDoor
