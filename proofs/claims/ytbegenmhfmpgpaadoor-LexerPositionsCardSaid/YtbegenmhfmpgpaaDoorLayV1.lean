/- What the reference's ValidToken returns: what the model of Valid says. Condition: strings of at most 2^47 bytes. -/
import Derived.Test.YtbegenmhfmpgpaaDoorLayM
import Derived.Test.YtbegenmhfmpgpaaDoorLexR3
import Derived.Test.YtbegenmhfmpgpaaDoorLayW3
import Derived.Deep.RegionWith
namespace Go.Proofs.YtbegenmhfmpgpaaDoor.M

theorem symB_mem (l : Bs) (h : symB l ≠ []) : symB l ∈ symbolsL := by
  rw [symB_spec] at h ⊢
  split
  · decide
  · rename_i h0
    rw [if_neg h0] at h
    exact firstP_mem l symbolsL h
theorem item_sym : ∀ q ∈ symbolsL, (decide (wordN q = 0) && decide (symB q = q)) = true := by decide +kernel
theorem item_kw : ∀ q ∈ keywords, (decide (wordN q = q.length) && decide ((q.head?.map digitB) = some false)) = true := by decide +kernel
theorem let_dig {c : UInt8} (h : letterB c = true) : digitB c = false := by
  simp only [letterB, digitB, Bool.or_eq_true, Bool.and_eq_true, decide_eq_true_eq, Bool.and_eq_false_iff, decide_eq_false_iff_not] at *
  omega
theorem cont_of {c : UInt8} (h : (letterB c || digitB c) = true) : contB c = true := by
  unfold contB; rw [h]; rfl
theorem wordN_all {l : Bs} (hne : l ≠ []) : wordN l = l.length ↔ (wlen l = l.length ∧ (l.head?.map fun c => letterB c || digitB c) = some true) := by
  cases l with
  | nil => exact absurd rfl hne
  | cons c r =>
    unfold wordN
    simp only [List.head?_cons, Option.map_some, Option.some.injEq, List.length_cons, wlen_cons]
    cases h : (letterB c || digitB c)
    · simp
    · rw [if_pos rfl, if_pos (cont_of h)]; simp
theorem intR_kind (l : Bs) : (intR l).kind = 0 ∨ (intR l).kind = 2 := by
  unfold intR
  split
  · exact .inl rfl
  · split
    · exact .inl rfl
    · split
      · exact .inr rfl
      · exact .inl rfl

def rvalT (t : TR) : Bool :=
  if t.kind = 1 then decide (t.num = 0) && nameB t.str
  else if t.kind = 2 then decide (0 ≤ t.num) && decide (t.str = [])
  else if t.kind = 3 then decide (t.num = 0) && kwB t.str
  else if t.kind = 4 then decide (t.num = 0) && symbolsL.contains t.str
  else false

theorem rval_eq (t : TR) : rvalT t = valT t := by
  obtain ⟨k, num, str, er⟩ := t
  by_cases h2 : k = 2
  · subst h2; rfl
  by_cases h : k = 1 ∨ k = 3 ∨ k = 4
  · have hv : valT ⟨k, num, str, er⟩ = (decide ((itemR str).err = 0) && (decide ((itemR str).kind = k) && (decide ((itemR str).num = num) && decide ((itemR str).str = str)))) := by
      unfold valT; rw [if_neg h2, if_pos h]
    rw [hv, Bool.eq_iff_iff]
    simp only [Bool.and_eq_true, decide_eq_true_eq]
    rcases h with rfl | rfl | rfl
    · show ((decide (num = 0) && nameB str) = true) ↔ _
      unfold nameB
      simp only [Bool.and_eq_true, decide_eq_true_eq, beq_iff_eq, Bool.not_eq_true']
      constructor
      · rintro ⟨rfl, hp, h64, hl, hw, hk⟩
        cases str with
        | nil => simp at hp
        | cons c r =>
          simp at hl
          have hN : wordN (c :: r) = (c :: r).length := (wordN_all (by simp)).2 ⟨hw, by simp [hl]⟩
          have : itemR (c :: r) = ⟨1, 0, c :: r, 0⟩ := by
            unfold itemR
            rw [if_pos (by rw [hN]; simp), hN, List.take_length]
            unfold wordR
            rw [if_neg (by simp [let_dig hl]), hk, if_neg (by decide), if_pos h64]
          rw [this]
          exact ⟨rfl, rfl, rfl, rfl⟩
      · rintro ⟨he, hk, hn, hs⟩
        unfold itemR at he hk hn hs
        by_cases hw : wordN str ≠ 0
        · rw [if_pos hw] at he hk hn hs
          unfold wordR at he hk hn hs
          by_cases hd : ((str.take (wordN str)).head?.map digitB) = some true
          · rw [if_pos hd] at hk
            rcases intR_kind (str.take (wordN str)) with q | q <;> rw [q] at hk <;> exact absurd hk (by first | decide | simp)
          · rw [if_neg hd] at he hk hn hs
            by_cases hkw : kwB (str.take (wordN str)) = true
            · rw [if_pos hkw] at hk; exact absurd hk (by first | decide | simp)
            · rw [if_neg hkw] at he hk hn hs
              by_cases h64 : (str.take (wordN str)).length ≤ 64
              · rw [if_pos h64] at hn hs
                simp only at hn hs
                have hle := wordN_le str
                have hN : wordN str = str.length := by have := congrArg List.length hs; rw [List.length_take] at this; omega
                rw [hs] at hd hkw h64
                have hne : str ≠ [] := by intro e; rw [e] at hw; exact hw rfl
                obtain ⟨h1, h2⟩ := (wordN_all hne).1 hN
                cases str with
                | nil => exact absurd rfl hne
                | cons c r =>
                  simp at hd h2
                  refine ⟨hn.symm, by simp, h64, ?_, h1, by simpa using hkw⟩
                  simp
                  rcases h2 with h2 | h2
                  · exact h2
                  · rw [hd] at h2; exact absurd h2 (by decide)
              · rw [if_neg h64] at hk; exact absurd hk (by first | decide | simp)
        · rw [if_neg hw] at hk
          split at hk <;> exact absurd hk (by first | decide | simp)
    · show ((decide (num = 0) && kwB str) = true) ↔ _
      simp only [Bool.and_eq_true, decide_eq_true_eq]
      constructor
      · rintro ⟨rfl, hk⟩
        have hm : str ∈ keywords := by simpa [kwB] using hk
        have hi := item_kw str hm
        simp only [Bool.and_eq_true, decide_eq_true_eq] at hi
        have hne : str.length ≠ 0 := by intro e; have : str = [] := List.eq_nil_of_length_eq_zero e; rw [this] at hi; simp at hi
        have : itemR str = ⟨3, 0, str, 0⟩ := by
          unfold itemR
          rw [if_pos (by rw [hi.1]; exact hne), hi.1, List.take_length]
          unfold wordR
          rw [hi.2, if_neg (by decide), if_pos hk]
        rw [this]
        exact ⟨rfl, rfl, rfl, rfl⟩
      · rintro ⟨he, hk, hn, hs⟩
        unfold itemR at he hk hn hs
        by_cases hw : wordN str ≠ 0
        · rw [if_pos hw] at he hk hn hs
          unfold wordR at he hk hn hs
          by_cases hd : ((str.take (wordN str)).head?.map digitB) = some true
          · rw [if_pos hd] at hk
            rcases intR_kind (str.take (wordN str)) with q | q <;> rw [q] at hk <;> exact absurd hk (by first | decide | simp)
          · rw [if_neg hd] at he hk hn hs
            by_cases hkw : kwB (str.take (wordN str)) = true
            · rw [if_pos hkw] at hn hs
              simp only at hn hs
              rw [hs] at hkw
              exact ⟨hn.symm, hkw⟩
            · rw [if_neg hkw] at hk
              split at hk <;> exact absurd hk (by first | decide | simp)
        · rw [if_neg hw] at hk
          split at hk <;> exact absurd hk (by first | decide | simp)
    · show ((decide (num = 0) && symbolsL.contains str) = true) ↔ _
      simp only [Bool.and_eq_true, decide_eq_true_eq]
      constructor
      · rintro ⟨rfl, hk⟩
        have hm : str ∈ symbolsL := by simpa using hk
        have hi := item_sym str hm
        simp only [Bool.and_eq_true, decide_eq_true_eq] at hi
        have hne := symbolsL_ne str hm
        have : itemR str = ⟨4, 0, str, 0⟩ := by
          unfold itemR
          rw [if_neg (by rw [hi.1]; simp), hi.2, if_pos hne]
        rw [this]
        exact ⟨rfl, rfl, rfl, rfl⟩
      · rintro ⟨he, hk, hn, hs⟩
        unfold itemR at he hk hn hs
        by_cases hw : wordN str ≠ 0
        · rw [if_pos hw] at hk
          unfold wordR at hk
          split at hk
          · rcases intR_kind (str.take (wordN str)) with q | q <;> rw [q] at hk <;> exact absurd hk (by first | decide | simp)
          · split at hk
            · exact absurd hk (by first | decide | simp)
            · split at hk <;> exact absurd hk (by first | decide | simp)
        · rw [if_neg hw] at he hk hn hs
          by_cases hy : symB str ≠ []
          · rw [if_pos hy] at hn hs
            simp only at hn hs
            refine ⟨hn.symm, ?_⟩
            have := symB_mem str hy
            rw [hs] at this
            simpa using this
          · rw [if_neg hy] at hk; exact absurd hk (by first | decide | simp)
  · have hv : valT ⟨k, num, str, er⟩ = false := by unfold valT; rw [if_neg h2, if_neg h]
    rw [hv]
    unfold rvalT
    rw [if_neg (fun e => h (.inl e)), if_neg h2, if_neg (fun e => h (.inr (.inl e))), if_neg (fun e => h (.inr (.inr e)))]

end Go.Proofs.YtbegenmhfmpgpaaDoor.M
namespace Go.Proofs.YtbegenmhfmpgpaaDoor
open Go.RowKit M

set_option maxRecDepth 100000 in
set_option maxHeartbeats 3200000 in
theorem rvalid_any (t : TR) (a b : Int) (hs : t.str.length ≤ 140737488355328) (w : World) :
    Calls Tryd.prog 11 #[tkV t a b] w fun e w' => e = .returned (.bool (valT t)) ∧ Below w.heap.size w w' := by
  rw [← rval_eq]
  obtain ⟨k, num, st, er⟩ := t
  show Calls _ _ #[.agg #[.int .i64 k, .int .i64 num, .string (S st), .int .i64 a, .int .i64 b]] _ _
  simp only at hs
  have hsz : (S st).size ≤ 140737488355328 := by show st.toArray.size ≤ _; simpa using hs
  have HNM := Lib.hid (fun W => rname_any (S st) hsz W)
  rw [S_toList] at HNM
  have hn : num = 0 ∨ num ≠ 0 := Classical.em _
  by_cases h1 : k = 1
  · subst h1
    have hV : Hid (rvalT ⟨1, num, st, er⟩ = (decide (num = 0) && nameB st)) := rfl
    generalize rvalT ⟨1, num, st, er⟩ = V at *
    generalize nameB st = nb at *
    rcases hn with rfl | hn
    · have hV2 : Hid (V = nb) := by show V = nb; rw [hV.out]; simp
      clear hV
      go_enter Tryd.func11, Tryd.ntmps11
      go_wp2_with fail
      refine (HNM.out _).mono ?_
      rintro e w1 ⟨rfl, hb1⟩
      have HB1 := Lib.hid hb1
      clear hb1
      go_wp2_with fail
      go_ret
      exact ⟨ret_bool hV2.out.symm, ((Below.refl _ _).alloc (Nat.le_refl _) _).trans (HB1.out.mono (by simp))⟩
    · have hV2 : Hid (V = false) := by show V = false; rw [hV.out, decide_eq_false hn]; rfl
      have g1 : (num == 0) = false := beq_eq_false_iff_ne.2 hn
      clear hV hn
      go_enter Tryd.func11, Tryd.ntmps11
      go_wp2_with fail
      go_ret
      exact ⟨ret_bool hV2.out.symm, (Below.refl _ _).alloc (Nat.le_refl _) _⟩
  by_cases h2 : k = 2
  · subst h2
    have hV : Hid (rvalT ⟨2, num, st, er⟩ = (decide (0 ≤ num) && decide (st = []))) := rfl
    generalize rvalT ⟨2, num, st, er⟩ = V at *
    clear HNM hn h1
    by_cases h0 : 0 ≤ num
    · cases dY : (st == [])
      · have d2 : ¬ st = [] := by intro q; rw [q] at dY; exact absurd dY (by decide)
        have d3 : st.isEmpty = false := by cases st with | nil => exact absurd rfl d2 | cons => rfl
        have hV2 : Hid (V = false) := by show V = false; rw [hV.out, decide_eq_false d2, Bool.and_false]
        clear hV
        go_enter Tryd.func11, Tryd.ntmps11
        go_wp2
        go_ret
        exact ⟨ret_bool hV2.out.symm, (Below.refl _ _).alloc (Nat.le_refl _) _⟩
      · have d2 : st = [] := by simpa using dY
        subst d2
        have hV2 : Hid (V = true) := by show V = true; rw [hV.out, decide_eq_true h0]; rfl
        clear hV dY
        go_enter Tryd.func11, Tryd.ntmps11
        go_wp2
        go_ret
        exact ⟨ret_bool hV2.out.symm, (Below.refl _ _).alloc (Nat.le_refl _) _⟩
    · have hV2 : Hid (V = false) := by show V = false; rw [hV.out, decide_eq_false h0]; rfl
      clear hV
      go_enter Tryd.func11, Tryd.ntmps11
      go_wp2
      go_ret
      exact ⟨ret_bool hV2.out.symm, (Below.refl _ _).alloc (Nat.le_refl _) _⟩
  clear HNM
  by_cases h3 : k = 3
  · subst h3
    have hV : Hid (rvalT ⟨3, num, st, er⟩ = (decide (num = 0) && keywords.contains st)) := rfl
    generalize rvalT ⟨3, num, st, er⟩ = V at *
    rcases hn with rfl | hn
    · have hV2 : Hid (V = keywords.contains st) := by show V = _; rw [hV.out]; simp
      clear hV h1 h2
      go_enter Tryd.func11, Tryd.ntmps11
      go_wp2_with fail
      have HIN := Lib.hid (fun (W : World) (g : Nat) (h : W.heap[g]? = some (strBlock keywords)) => rin_any keywords 25 rfl (by decide) (S st) g W h)
      rw [S_toList] at HIN
      generalize keywords.contains st = nb at *
      have HBZ := ((Below.refl w.heap.size w).alloc (Nat.le_refl _) (.cells #[.int .i64 3, .int .i64 0, .string (S st), .int .i64 a, .int .i64 b] 25)).alloc (by simp) (strBlock keywords)
      first | go_region_with (first | (go_at_call 29; refine (rkeywords_any _).mono ?_; rintro e w1 ⟨rfl, rfl⟩) | (go_at_call 28; refine (HIN.out _ _ (by exact heap_new2 w _ _)).mono ?_; rintro e w2 ⟨rfl, rfl⟩)) | done
      all_goals
        go_wp2_with fail
        go_ret
        exact ⟨ret_bool hV2.out.symm, ⟨HBZ.os, HBZ.tape, HBZ.output, HBZ.size, HBZ.block⟩⟩
    · have hV2 : Hid (V = false) := by show V = false; rw [hV.out, decide_eq_false hn]; rfl
      have g1 : (num == 0) = false := beq_eq_false_iff_ne.2 hn
      clear hV hn h1 h2
      go_enter Tryd.func11, Tryd.ntmps11
      go_wp2_with fail
      have HBZ := (Below.refl w.heap.size w).alloc (Nat.le_refl _) (.cells #[.int .i64 3, .int .i64 num, .string (S st), .int .i64 a, .int .i64 b] 25)
      first | go_region_with (fail) | done
      all_goals
        go_wp2_with fail
        go_ret
        exact ⟨ret_bool hV2.out.symm, ⟨HBZ.os, HBZ.tape, HBZ.output, HBZ.size, HBZ.block⟩⟩
  by_cases h4 : k = 4
  · subst h4
    have hV : Hid (rvalT ⟨4, num, st, er⟩ = (decide (num = 0) && symbolsL.contains st)) := rfl
    generalize rvalT ⟨4, num, st, er⟩ = V at *
    rcases hn with rfl | hn
    · have hV2 : Hid (V = symbolsL.contains st) := by show V = _; rw [hV.out]; simp
      clear hV h1 h2 h3
      go_enter Tryd.func11, Tryd.ntmps11
      go_wp2_with fail
      have HIN := Lib.hid (fun (W : World) (g : Nat) (h : W.heap[g]? = some (strBlock symbolsL)) => rin_any symbolsL 59 rfl (by decide) (S st) g W h)
      rw [S_toList] at HIN
      generalize symbolsL.contains st = nb at *
      have HBZ := ((Below.refl w.heap.size w).alloc (Nat.le_refl _) (.cells #[.int .i64 4, .int .i64 0, .string (S st), .int .i64 a, .int .i64 b] 25)).alloc (by simp) (strBlock symbolsL)
      first | go_region_with (first | (go_at_call 30; refine (symbols_ref _).mono ?_; rintro e w1 ⟨rfl, rfl⟩) | (go_at_call 28; refine (HIN.out _ _ (by exact heap_new2 w _ _)).mono ?_; rintro e w2 ⟨rfl, rfl⟩)) | done
      all_goals
        go_wp2_with fail
        go_ret
        exact ⟨ret_bool hV2.out.symm, ⟨HBZ.os, HBZ.tape, HBZ.output, HBZ.size, HBZ.block⟩⟩
    · have hV2 : Hid (V = false) := by show V = false; rw [hV.out, decide_eq_false hn]; rfl
      have g1 : (num == 0) = false := beq_eq_false_iff_ne.2 hn
      clear hV hn h1 h2 h3
      go_enter Tryd.func11, Tryd.ntmps11
      go_wp2_with fail
      have HBZ := (Below.refl w.heap.size w).alloc (Nat.le_refl _) (.cells #[.int .i64 4, .int .i64 num, .string (S st), .int .i64 a, .int .i64 b] 25)
      first | go_region_with (fail) | done
      all_goals
        go_wp2_with fail
        go_ret
        exact ⟨ret_bool hV2.out.symm, ⟨HBZ.os, HBZ.tape, HBZ.output, HBZ.size, HBZ.block⟩⟩
  · have hV : Hid (rvalT ⟨k, num, st, er⟩ = false) := by show rvalT _ = _; unfold rvalT; rw [if_neg h1, if_neg h2, if_neg h3, if_neg h4]
    generalize rvalT ⟨k, num, st, er⟩ = V at *
    have g1 : (k == 1) = false := beq_eq_false_iff_ne.2 h1
    have g2 : (k == 2) = false := beq_eq_false_iff_ne.2 h2
    have g3 : (k == 3) = false := beq_eq_false_iff_ne.2 h3
    have g4 : (k == 4) = false := beq_eq_false_iff_ne.2 h4
    clear h1 h2 h3 h4 hn
    go_enter Tryd.func11, Tryd.ntmps11
    go_wp2_with fail
    go_ret
    exact ⟨ret_bool hV.out.symm, (Below.refl _ _).alloc (Nat.le_refl _) _⟩

end Go.Proofs.YtbegenmhfmpgpaaDoor
