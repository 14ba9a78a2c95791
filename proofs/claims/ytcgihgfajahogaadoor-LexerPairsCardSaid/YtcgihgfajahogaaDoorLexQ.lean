/- LexerPairs' walk: two symbols, with and without a space between them. -/
import Derived.Test.YtcgihgfajahogaaDoorLexP
namespace Go.Proofs.YtcgihgfajahogaaDoor
open Go.RowKit M

/-- what Mod makes of an int -/
def modN (v : Int) (n : Nat) : Nat := (v % 18446744073709551616 % (n : Int)).toNat
theorem modN_lt (v : Int) : modN v 59 < 59 := by unfold modN; omega
theorem mod_eq (v : Int) : wrap64 ((IntKind.u64.wrap v).tmod 59) = (modN v 59 : Int) := by
  rw [IntKind.wrap_u64, Int.tmod_eq_emod_of_nonneg (by omega)]
  unfold modN wrap64
  omega

set_option maxHeartbeats 400000 in
theorem mod_59 (v : Int) (w : World) :
    Calls Tryd.prog 26 #[.int .i64 v, .int .i64 59] w fun e w' => e = .returned (.int .i64 (modN v 59)) ∧ w' = w := by
  have H := Lib.hid (mod_eq v)
  go_enter Tryd.func26, Tryd.ntmps26
  go_wp2
  go_ret
  refine ⟨?_, rfl⟩
  rw [← H.out]; rfl

theorem sym_mem (k : Nat) (h : k < 59) : symbolsL.getD k [] ∈ symbolsL := by
  have h' : k < symbolsL.length := by rw [symbolsL_len]; exact h
  have e : symbolsL.getD k [] = symbolsL[k] := by simp [h']
  rw [e]; exact List.getElem_mem h'
theorem sym_le4 (k : Nat) : (symbolsL.getD k []).length ≤ 4 := by
  by_cases h : k < 59
  · exact (symbolsL_at ⟨k, h⟩).2
  · have : symbolsL.length ≤ k := by rw [symbolsL_len]; omega
    simp [this]

set_option maxRecDepth 100000 in
set_option maxHeartbeats 600000 in
theorem lexerPairs_any (i k : Int) (w : World) (hr : RangeVar w) :
    Calls Tryd.prog 7 #[.int .i64 i, .int .i64 k] w fun e w' => e = .returned (.bool true) ∧ Below w.heap.size w w' := by
  have hx := modN_lt i
  have hy := modN_lt k
  obtain ⟨A, hA⟩ : ∃ A, symbolsL.getD (modN i 59) [] = A := ⟨_, rfl⟩
  obtain ⟨B, hB⟩ : ∃ B, symbolsL.getD (modN k 59) [] = B := ⟨_, rfl⟩
  have hpa : pairChk A B = true := by rw [← hA, ← hB]; exact pair_any _ _ (sym_mem _ hx) (sym_mem _ hy)
  have lx : A.length ≤ 4 := by rw [← hA]; exact sym_le4 _
  have ly : B.length ≤ 4 := by rw [← hB]; exact sym_le4 _
  obtain ⟨ta, hta0⟩ : ∃ ta, S A = ta := ⟨_, rfl⟩
  obtain ⟨tb, htb0⟩ : ∃ tb, S B = tb := ⟨_, rfl⟩
  have HC : ∀ (W : World) (b : Nat), W.heap[b]? = some (strBlock symbolsL) → W.cell? ⟨b, modN i 59, none⟩ = some (.string ta) ∧ W.cell? ⟨b, modN k 59, none⟩ = some (.string tb) := fun W b hb => by
    rw [← hta0, ← htb0, ← hA, ← hB]
    exact ⟨str_cell hb _ (by rw [symbolsL_len]; exact hx), str_cell hb _ (by rw [symbolsL_len]; exact hy)⟩
  have hta : ta.data.toList = A := by rw [← hta0]
  have htb : tb.data.toList = B := by rw [← htb0]
  have hza : ta.size ≤ 4 := by rw [← hta0]; exact lx
  have hzb : tb.size ≤ 4 := by rw [← htb0]; exact ly
  clear hA hB hta0 htb0
  have hsp : ((ta ++ ⟨#[32]⟩) ++ tb).data.toList = A ++ [32] ++ B := by rw [toList_append, toList_append, hta, htb]
  have hspz : ((ta ++ ⟨#[32]⟩) ++ tb).size ≤ 9 := by rw [ByteArray.size_append, ByteArray.size_append]; have : (⟨#[32]⟩ : ByteArray).size = 1 := rfl; omega
  have H1 := fun W h => scan_any ((ta ++ ⟨#[32]⟩) ++ tb) (by unfold maxLen; omega) W h
  rw [hsp] at H1
  have HAG := Lib.hid (fun W h => agrees_all' (ta ++ tb) (by unfold maxLen; rw [ByteArray.size_append]; omega) W h)
  unfold pairChk at hpa
  generalize scan (A ++ [32] ++ B) = R at H1 hpa
  obtain ⟨ts, ⟨a, b⟩, er⟩ := R
  simp only [Bool.and_eq_true, beq_iff_eq] at hpa
  obtain ⟨rfl, hts⟩ := hpa
  obtain ⟨t0, t1, rfl, ht0, ht1⟩ : ∃ t0 t1, ts = [t0, t1] ∧ t0.1.str = A ∧ t1.1.str = B := by
    cases ts with
    | nil => simp at hts
    | cons t r =>
      cases r with
      | nil => simp at hts
      | cons t' r' =>
        cases r' with
        | nil =>
          simp only [List.map_cons, List.map_nil, List.cons.injEq, and_true] at hts
          exact ⟨t, t', rfl, hts.1, hts.2⟩
        | cons => simp at hts
  have hsa : Hid (S t0.1.str = ta) := by unfold Hid; rw [ht0, ← hta, S_of]
  have hsb : Hid (S t1.1.str = tb) := by unfold Hid; rw [ht1, ← htb, S_of]
  have HS1 := Lib.hid H1
  have HCC := Lib.hid HC
  have HR := Lib.hid hr
  have hx1 : (modN i 59 : Int) < 59 := by omega
  have hy1 : (modN k 59 : Int) < 59 := by omega
  have e1 := Lib.hid hta
  have e2 := Lib.hid htb
  clear H1 HC hr hsp hspz hts ht0 ht1 hta htb lx ly
  go_enter Tryd.func7, Tryd.ntmps7
  go_wp2_with fail
  refine (symbols_ref _).mono ?_
  rintro e w0 ⟨rfl, hw0⟩
  have hb0 : w0.heap[w.heap.size]? = some (strBlock symbolsL) := by rw [← hw0]; exact heap_alloc_new _ _
  obtain ⟨c1, c2⟩ := HCC.out w0 w.heap.size hb0
  have HB0 : Hid (Below w.heap.size w w0) := by rw [← hw0]; exact (Below.refl _ _).alloc (Nat.le_refl _) _
  have HR0 : Hid (RangeVar w0) := HR.out.below HB0.out
  clear hw0 hb0
  go_wp2
  go_quiet ((go_at_call 26; exact Calls.quiet_of_same (mod_59 _ _)))
  have HRD : Hid (RangeVar (w0.drewN nq)) := HR0.out.below (below_drewN' (Below.refl _ _) _)
  have HBD : Hid (Below w.heap.size w (w0.drewN nq)) := below_drewN' HB0.out _
  go_wp2_with fail
  refine (HS1.out _ HRD.out).mono ?_
  rintro e w1 ⟨v, rfl, ho, hb⟩
  obtain ⟨g, c, rfl, hg1, hg2, hc, hcells⟩ := owns_cell ho (by simp)
  have k1 : w1.cell? ⟨g, 2, none⟩ = some (.string (S t0.1.str)) := hcells 2 _ rfl
  have k2 : w1.cell? ⟨g, 7, none⟩ = some (.string (S t1.1.str)) := hcells 7 _ rfl
  rw [hsa.out] at k1
  rw [hsb.out] at k2
  have HR1 : Hid (RangeVar w1) := HRD.out.below hb
  have HB1 : Hid (Below w.heap.size w w1) := HBD.out.trans (hb.mono HBD.out.size)
  have hs1 := HB1.out.size
  clear ho hb hcells c1 c2
  go_wp2_with fail
  refine (awake_any _ (HR1.out.alloc _)).mono ?_
  rintro e w2 ⟨rfl, hb2⟩
  have HR2 : Hid (RangeVar w2) := (HR1.out.alloc _).below hb2
  have HB2 : Hid (Below w.heap.size w w2) := (HB1.out.alloc hs1 _).trans (hb2.mono (by simp; omega))
  have HB21 : Hid (Below w1.heap.size w1 w2) := ((Below.refl _ _).alloc (Nat.le_refl _) _).trans (hb2.mono (by simp))
  clear hb2
  go_wp2_with fail
  refine (HAG.out _ HR2.out).mono ?_
  rintro e w3 ⟨rfl, hb3⟩
  have HB3 : Hid (Below w.heap.size w w3) := HB2.out.trans (hb3.mono HB2.out.size)
  have HB31 : Below w1.heap.size w1 w3 := HB21.out.trans (hb3.mono HB21.out.size)
  have m1 : w3.cell? ⟨g, 2, none⟩ = some (.string ta) := (HB31.cell (p := ⟨g, 2, none⟩) hg2).trans k1
  have m2 : w3.cell? ⟨g, 7, none⟩ = some (.string tb) := (HB31.cell (p := ⟨g, 7, none⟩) hg2).trans k2
  clear hb3 HB31 k1 k2
  go_wp2
  go_ret
  exact ⟨rfl, HB3.out⟩

end Go.Proofs.YtcgihgfajahogaaDoor
