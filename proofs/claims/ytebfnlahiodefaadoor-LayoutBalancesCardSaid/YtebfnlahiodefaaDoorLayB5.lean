/- LayoutBalances: Remove and Balanced return what the reference returns. Conditions: at most 2932031007402 tokens (2^47 bytes), a slice of bytes has a length; strconv.ErrRange holds an interface value. -/
import Derived.Test.YtebfnlahiodefaaDoorLayB1
import Derived.Test.YtebfnlahiodefaaDoorLexX0
namespace Go.Proofs.YtebfnlahiodefaaDoor
open Go.RowKit M

set_option maxRecDepth 100000 in
set_option maxHeartbeats 6400000 in
theorem layoutBalances_any (w : World) (A1 : Option Addr) (n1 c1 : Nat) (A2 : Option Addr) (n2 c2 : Nat) (raw : List Tok) (h1 : InBytes w A1 n1) (hn1 : n1 ≤ maxLen) (hn2 : n2 = raw.length) (h2 : InToks w A2 raw) (hm : raw.length ≤ 2932031007402) (hr : RangeVar w) :
    Calls Tryd.prog 9 #[.slice A1 n1 c1, .slice A2 n2 c2] w fun e w' => e = .returned (.bool true) ∧ Below w.heap.size w w' := by
  have H1 := Lib.hid h1
  have H2 := Lib.hid h2
  have HR := Lib.hid hr
  have HN1 := Lib.hid hn1
  subst hn2
  clear h1 h2 hr hn1
  go_enter Tryd.func9, Tryd.ntmps9
  go_wp2_with fail
  go_loopw [5, 6] (fun v i wr => ∃ (ts : List Tok), i = .int .i64 ts.length ∧ ts.length ≤ 60 ∧ Hid (wr.ownsRow w.heap.size 25 5 v ts.length (toksCells ts)) ∧ Hid (Below w.heap.size w wr)) (fun _ i _ => 60 - (intOf i).toNat)
  case atStart => exact ⟨[], rfl, by simp, World.ownsRow_nil _ _ _ _, Below.refl _ _⟩
  case round =>
    obtain ⟨ts, rfl, hk, hO, hB⟩ := hrel
    obtain ⟨A3, c3, rfl⟩ := owns_form hO.out
    by_cases hlt : ts.length < n1 ∧ ts.length < 60
    · obtain ⟨hlt1, hlt2⟩ := hlt
      have hHA := H1.out.below hB.out
      clear H1
      have hn1 : n1 ≤ 9223372036854775807 := by have := HN1.out; unfold maxLen at this; omega
      rcases hHA with hnil | ⟨bb, off, rfl, hbb, hcell⟩
      · omega
      obtain ⟨z, hz0, hz1, hz⟩ := hcell _ hlt1
      clear hcell
      obtain ⟨i0, hi0, hiz0, hiz1, hiz2⟩ := info_parts token_info
      have hbz := hB.out.size
      go_wp2_with (at_builtin; refine wpList_append_own _ rfl _ _ 26 rfl w.heap.size 25 i0 _ 5 48 Tryd.underlying26 hi0 hiz0 hiz1 hiz2 rfl (by decide) _ _ _ rfl (hO.out.alloc _) ⟨wr.heap.size, 0, none⟩ 1 1 (tokCells (mkT (4 + z % 4) (0, 0))) rfl rfl (World.news_of_block (cs := #[.int .i64 (4 + z % 4), .int .i64 0, .string ⟨#[]⟩, .int .i64 0, .int .i64 0]) (t := 25) (fr := (0, 0)) (heap_alloc_new wr _)) (tok_one _) (by unfold maxLen; omega) (by omega) (by simp; omega) ?_; intro v5 w5 hown5 hgrow5 _)
      have HO5 : Hid (w5.ownsRow w.heap.size 25 5 v5 (ts ++ [mkT (4 + z % 4) (0, 0)]).length (toksCells (ts ++ [mkT (4 + z % 4) (0, 0)]))) := by
        show World.ownsRow _ _ _ _ _ _ _
        rw [List.length_append, ← toks_snoc]
        exact hown5
      have HB5 : Hid (Below w.heap.size w w5) := by
        refine (hB.out.alloc hbz _).trans ⟨hgrow5.os, hgrow5.tape, hgrow5.output, hgrow5.size, fun j hj => hgrow5.block j (by simp; omega) (fun e => ?_)⟩
        have := (hO.out.lt j e.symm).1; omega
      clear hown5 hgrow5
      go_roundw
      case rel => exact ⟨ts ++ [mkT (4 + z % 4) (0, 0)], by simp, by simp; omega, HO5, HB5⟩
      case measure => simp [intOf]; omega
    · have HR1 := Lib.hid (HR.out.below hB.out)
      have hbz := hB.out.size
      have HIm := Lib.hid (InToks.own hO.out rfl)
      have HIr := Lib.hid (H2.out.below hB.out)
      have hn1 : n1 ≤ 9223372036854775807 := by have := HN1.out; unfold maxLen at this; omega
      clear H1 H2 HR hO
      have hcase : (ts.length < n1 ∧ ¬ ts.length < 60) ∨ ¬ ts.length < n1 := by omega
      rcases hcase with ⟨h1, h2⟩ | h1
      all_goals
        go_wp2_with fail
        refine (awake2_any _ HR1.out).mono ?_
        rintro e w1 ⟨rfl, hb1⟩
        have HB1 := Lib.hid (hB.out.trans (hb1.mono hbz))
        have hz1 := HB1.out.size
        have HIm1 := Lib.hid (HIm.out.below hb1)
        have HIr1 := Lib.hid (HIr.out.below hb1)
        clear hb1 hB HIm HIr HR1
        have g1 : (balL ts == balL ts) = true := beq_self_eq_true _
        have g2 : (balL raw == balL raw) = true := beq_self_eq_true _
        go_wp2_with fail
        refine (balanced_any _ A3 ts.length c3 ts rfl HIm1.out (by omega)).mono ?_
        rintro e w2 ⟨rfl, hb⟩
        replace HB1 := Lib.hid (HB1.out.trans (hb.mono hz1))
        replace hz1 := HB1.out.size
        replace HIm1 := Lib.hid (HIm1.out.below hb)
        replace HIr1 := Lib.hid (HIr1.out.below hb)
        clear hb
        go_wp2_with fail
        refine (rbalanced_any _ A3 ts.length c3 ts rfl HIm1.out (by omega)).mono ?_
        rintro e w3 ⟨rfl, hb⟩
        replace HB1 := Lib.hid (HB1.out.trans (hb.mono hz1))
        replace hz1 := HB1.out.size
        replace HIm1 := Lib.hid (HIm1.out.below hb)
        replace HIr1 := Lib.hid (HIr1.out.below hb)
        clear hb
        go_wp2_with fail
        refine (balanced_any _ A2 raw.length c2 raw rfl HIr1.out (by omega)).mono ?_
        rintro e w4 ⟨rfl, hb⟩
        replace HB1 := Lib.hid (HB1.out.trans (hb.mono hz1))
        replace hz1 := HB1.out.size
        replace HIm1 := Lib.hid (HIm1.out.below hb)
        replace HIr1 := Lib.hid (HIr1.out.below hb)
        clear hb
        go_wp2_with fail
        refine (rbalanced_any _ A2 raw.length c2 raw rfl HIr1.out (by omega)).mono ?_
        rintro e w5 ⟨rfl, hb⟩
        replace HB1 := Lib.hid (HB1.out.trans (hb.mono hz1))
        replace hz1 := HB1.out.size
        replace HIm1 := Lib.hid (HIm1.out.below hb)
        replace HIr1 := Lib.hid (HIr1.out.below hb)
        clear hb
        go_wp2_with fail
        refine (remove_any _ A3 ts.length c3 ts rfl HIm1.out (by omega)).mono ?_
        rintro e w6 ⟨A4, c4, rfl, hi4, hb⟩
        replace HB1 := Lib.hid (HB1.out.trans (hb.mono hz1))
        replace hz1 := HB1.out.size
        replace HIm1 := Lib.hid (HIm1.out.below hb)
        replace HIr1 := Lib.hid (HIr1.out.below hb)
        have HI4 := Lib.hid hi4
        clear hi4
        clear hb
        go_wp2_with fail
        refine (rremove_any _ A3 ts.length c3 ts rfl HIm1.out (by omega)).mono ?_
        rintro e w7 ⟨A5, c5, rfl, hi5, hb⟩
        replace HB1 := Lib.hid (HB1.out.trans (hb.mono hz1))
        replace hz1 := HB1.out.size
        replace HIr1 := Lib.hid (HIr1.out.below hb)
        replace HI4 := Lib.hid (HI4.out.below hb)
        have HI5 := Lib.hid hi5
        clear hi5
        clear hb
        go_wp2_with fail
        refine (equal_toks (remL ts) _ rfl (by have := remL_len ts; omega) A4 A5 c4 c5 _ HI4.out HI5.out).mono ?_
        rintro e w8 ⟨rfl, mm, rfl⟩
        replace HIr1 := Lib.hid (InToks.drewN HIr1.out mm)
        replace HB1 := Lib.hid (below_drewN' HB1.out mm)
        go_wp2_with fail
        refine (remove_any _ A2 raw.length c2 raw rfl HIr1.out hm).mono ?_
        rintro e w9 ⟨A6, c6, rfl, hi6, hb⟩
        replace HB1 := Lib.hid (HB1.out.trans (hb.mono hz1))
        replace hz1 := HB1.out.size
        replace HIr1 := Lib.hid (HIr1.out.below hb)
        have HI6 := Lib.hid hi6
        clear hi6
        clear hb
        go_wp2_with fail
        refine (rremove_any _ A2 raw.length c2 raw rfl HIr1.out hm).mono ?_
        rintro e w10 ⟨A7, c7, rfl, hi7, hb⟩
        replace HB1 := Lib.hid (HB1.out.trans (hb.mono hz1))
        replace hz1 := HB1.out.size
        replace HI6 := Lib.hid (HI6.out.below hb)
        have HI7 := Lib.hid hi7
        clear hi7
        clear hb
        go_wp2_with fail
        refine (equal_toks (remL raw) _ rfl (by have := remL_len raw; omega) A6 A7 c6 c7 _ HI6.out HI7.out).mono ?_
        rintro e w11 ⟨rfl, m2, rfl⟩
        go_wp2_with fail
        go_ret
        exact ⟨rfl, below_drewN' HB1.out m2⟩

end Go.Proofs.YtebfnlahiodefaaDoor
