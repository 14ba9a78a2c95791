/- What the reference's ValidToken returns: what the model of Valid says. Condition: strings of at most 2^47 bytes. The reference's Insert: how its inserter begins, what its loop keeps. -/
import Derived.Test.YtoogbgmneabfnaaDoorG6
import Derived.Test.YtoogbgmneabfnaaDoorG19
import Derived.Test.YtoogbgmneabfnaaDoorG8
import Derived.Deep.RegionWith
import Derived.Test.YtoogbgmneabfnaaDoorG12
import Derived.Test.YtoogbgmneabfnaaDoorG17
import Derived.Deep.DeepCutAuto
import Derived.Deep.CutBlock
namespace Go.Proofs.YtoogbgmneabfnaaDoor.M

theorem symB_mem (l : Bs) (h : symB l ≠ []) : symB l ∈ symbolsL := by
  rw [symB_spec] at h ⊢
  split
  · decide
  · rename_i h0
    rw [if_neg h0] at h
    exact firstP_mem l symbolsL h
theorem item_sym : ∀ q ∈ symbolsL, (decide (wordN q = 0) && decide (symB q = q)) = true := by decide +kernel
theorem item_kw : ∀ q ∈ keywords, (decide (wordN q = q.length) && decide ((q.head?.map digitB) = some false)) = true := by decide +kernel
theorem let_dig {c : UInt8} (h : letterB c = true) : digitB c = false := by
  simp only [letterB, digitB, Bool.or_eq_true, Bool.and_eq_true, decide_eq_true_eq, Bool.and_eq_false_iff, decide_eq_false_iff_not] at *
  omega
theorem cont_of {c : UInt8} (h : (letterB c || digitB c) = true) : contB c = true := by
  unfold contB; rw [h]; rfl
theorem wordN_all {l : Bs} (hne : l ≠ []) : wordN l = l.length ↔ (wlen l = l.length ∧ (l.head?.map fun c => letterB c || digitB c) = some true) := by
  cases l with
  | nil => exact absurd rfl hne
  | cons c r =>
    unfold wordN
    simp only [List.head?_cons, Option.map_some, Option.some.injEq, List.length_cons, wlen_cons]
    cases h : (letterB c || digitB c)
    · simp
    · rw [if_pos rfl, if_pos (cont_of h)]; simp
theorem intR_kind (l : Bs) : (intR l).kind = 0 ∨ (intR l).kind = 2 := by
  unfold intR
  split
  · exact .inl rfl
  · split
    · exact .inl rfl
    · split
      · exact .inr rfl
      · exact .inl rfl

def rvalT (t : TR) : Bool :=
  if t.kind = 1 then decide (t.num = 0) && nameB t.str
  else if t.kind = 2 then decide (0 ≤ t.num) && decide (t.str = [])
  else if t.kind = 3 then decide (t.num = 0) && kwB t.str
  else if t.kind = 4 then decide (t.num = 0) && symbolsL.contains t.str
  else false

theorem rval_eq (t : TR) : rvalT t = valT t := by
  obtain ⟨k, num, str, er⟩ := t
  by_cases h2 : k = 2
  · subst h2; rfl
  by_cases h : k = 1 ∨ k = 3 ∨ k = 4
  · have hv : valT ⟨k, num, str, er⟩ = (decide ((itemR str).err = 0) && (decide ((itemR str).kind = k) && (decide ((itemR str).num = num) && decide ((itemR str).str = str)))) := by
      unfold valT; rw [if_neg h2, if_pos h]
    rw [hv, Bool.eq_iff_iff]
    simp only [Bool.and_eq_true, decide_eq_true_eq]
    rcases h with rfl | rfl | rfl
    · show ((decide (num = 0) && nameB str) = true) ↔ _
      unfold nameB
      simp only [Bool.and_eq_true, decide_eq_true_eq, beq_iff_eq, Bool.not_eq_true']
      constructor
      · rintro ⟨rfl, hp, h64, hl, hw, hk⟩
        cases str with
        | nil => simp at hp
        | cons c r =>
          simp at hl
          have hN : wordN (c :: r) = (c :: r).length := (wordN_all (by simp)).2 ⟨hw, by simp [hl]⟩
          have : itemR (c :: r) = ⟨1, 0, c :: r, 0⟩ := by
            unfold itemR
            rw [if_pos (by rw [hN]; simp), hN, List.take_length]
            unfold wordR
            rw [if_neg (by simp [let_dig hl]), hk, if_neg (by decide), if_pos h64]
          rw [this]
          exact ⟨rfl, rfl, rfl, rfl⟩
      · rintro ⟨he, hk, hn, hs⟩
        unfold itemR at he hk hn hs
        by_cases hw : wordN str ≠ 0
        · rw [if_pos hw] at he hk hn hs
          unfold wordR at he hk hn hs
          by_cases hd : ((str.take (wordN str)).head?.map digitB) = some true
          · rw [if_pos hd] at hk
            rcases intR_kind (str.take (wordN str)) with q | q <;> rw [q] at hk <;> exact absurd hk (by first | decide | simp)
          · rw [if_neg hd] at he hk hn hs
            by_cases hkw : kwB (str.take (wordN str)) = true
            · rw [if_pos hkw] at hk; exact absurd hk (by first | decide | simp)
            · rw [if_neg hkw] at he hk hn hs
              by_cases h64 : (str.take (wordN str)).length ≤ 64
              · rw [if_pos h64] at hn hs
                simp only at hn hs
                have hle := wordN_le str
                have hN : wordN str = str.length := by have := congrArg List.length hs; rw [List.length_take] at this; omega
                rw [hs] at hd hkw h64
                have hne : str ≠ [] := by intro e; rw [e] at hw; exact hw rfl
                obtain ⟨h1, h2⟩ := (wordN_all hne).1 hN
                cases str with
                | nil => exact absurd rfl hne
                | cons c r =>
                  simp at hd h2
                  refine ⟨hn.symm, by simp, h64, ?_, h1, by simpa using hkw⟩
                  simp
                  rcases h2 with h2 | h2
                  · exact h2
                  · rw [hd] at h2; exact absurd h2 (by decide)
              · rw [if_neg h64] at hk; exact absurd hk (by first | decide | simp)
        · rw [if_neg hw] at hk
          split at hk <;> exact absurd hk (by first | decide | simp)
    · show ((decide (num = 0) && kwB str) = true) ↔ _
      simp only [Bool.and_eq_true, decide_eq_true_eq]
      constructor
      · rintro ⟨rfl, hk⟩
        have hm : str ∈ keywords := by simpa [kwB] using hk
        have hi := item_kw str hm
        simp only [Bool.and_eq_true, decide_eq_true_eq] at hi
        have hne : str.length ≠ 0 := by intro e; have : str = [] := List.eq_nil_of_length_eq_zero e; rw [this] at hi; simp at hi
        have : itemR str = ⟨3, 0, str, 0⟩ := by
          unfold itemR
          rw [if_pos (by rw [hi.1]; exact hne), hi.1, List.take_length]
          unfold wordR
          rw [hi.2, if_neg (by decide), if_pos hk]
        rw [this]
        exact ⟨rfl, rfl, rfl, rfl⟩
      · rintro ⟨he, hk, hn, hs⟩
        unfold itemR at he hk hn hs
        by_cases hw : wordN str ≠ 0
        · rw [if_pos hw] at he hk hn hs
          unfold wordR at he hk hn hs
          by_cases hd : ((str.take (wordN str)).head?.map digitB) = some true
          · rw [if_pos hd] at hk
            rcases intR_kind (str.take (wordN str)) with q | q <;> rw [q] at hk <;> exact absurd hk (by first | decide | simp)
          · rw [if_neg hd] at he hk hn hs
            by_cases hkw : kwB (str.take (wordN str)) = true
            · rw [if_pos hkw] at hn hs
              simp only at hn hs
              rw [hs] at hkw
              exact ⟨hn.symm, hkw⟩
            · rw [if_neg hkw] at hk
              split at hk <;> exact absurd hk (by first | decide | simp)
        · rw [if_neg hw] at hk
          split at hk <;> exact absurd hk (by first | decide | simp)
    · show ((decide (num = 0) && symbolsL.contains str) = true) ↔ _
      simp only [Bool.and_eq_true, decide_eq_true_eq]
      constructor
      · rintro ⟨rfl, hk⟩
        have hm : str ∈ symbolsL := by simpa using hk
        have hi := item_sym str hm
        simp only [Bool.and_eq_true, decide_eq_true_eq] at hi
        have hne := symbolsL_ne str hm
        have : itemR str = ⟨4, 0, str, 0⟩ := by
          unfold itemR
          rw [if_neg (by rw [hi.1]; simp), hi.2, if_pos hne]
        rw [this]
        exact ⟨rfl, rfl, rfl, rfl⟩
      · rintro ⟨he, hk, hn, hs⟩
        unfold itemR at he hk hn hs
        by_cases hw : wordN str ≠ 0
        · rw [if_pos hw] at hk
          unfold wordR at hk
          split at hk
          · rcases intR_kind (str.take (wordN str)) with q | q <;> rw [q] at hk <;> exact absurd hk (by first | decide | simp)
          · split at hk
            · exact absurd hk (by first | decide | simp)
            · split at hk <;> exact absurd hk (by first | decide | simp)
        · rw [if_neg hw] at he hk hn hs
          by_cases hy : symB str ≠ []
          · rw [if_pos hy] at hn hs
            simp only at hn hs
            refine ⟨hn.symm, ?_⟩
            have := symB_mem str hy
            rw [hs] at this
            simpa using this
          · rw [if_neg hy] at hk; exact absurd hk (by first | decide | simp)
  · have hv : valT ⟨k, num, str, er⟩ = false := by unfold valT; rw [if_neg h2, if_neg h]
    rw [hv]
    unfold rvalT
    rw [if_neg (fun e => h (.inl e)), if_neg h2, if_neg (fun e => h (.inr (.inl e))), if_neg (fun e => h (.inr (.inr e)))]

end Go.Proofs.YtoogbgmneabfnaaDoor.M
namespace Go.Proofs.YtoogbgmneabfnaaDoor
open Go.RowKit M

set_option maxRecDepth 100000 in
set_option maxHeartbeats 3200000 in
theorem rvalid_any (t : TR) (a b : Int) (hs : t.str.length ≤ 140737488355328) (w : World) :
    Calls Tryd.prog 21 #[tkV t a b] w fun e w' => e = .returned (.bool (valT t)) ∧ Below w.heap.size w w' := by
  rw [← rval_eq]
  obtain ⟨k, num, st, er⟩ := t
  show Calls _ _ #[.agg #[.int .i64 k, .int .i64 num, .string (S st), .int .i64 a, .int .i64 b]] _ _
  simp only at hs
  have hsz : (S st).size ≤ 140737488355328 := by show st.toArray.size ≤ _; simpa using hs
  have HNM := Lib.hid (fun W => rname_any (S st) hsz W)
  rw [S_toList] at HNM
  have hn : num = 0 ∨ num ≠ 0 := Classical.em _
  by_cases h1 : k = 1
  · subst h1
    have hV : Hid (rvalT ⟨1, num, st, er⟩ = (decide (num = 0) && nameB st)) := rfl
    generalize rvalT ⟨1, num, st, er⟩ = V at *
    generalize nameB st = nb at *
    rcases hn with rfl | hn
    · have hV2 : Hid (V = nb) := by show V = nb; rw [hV.out]; simp
      clear hV
      go_enter Tryd.func21, Tryd.ntmps21
      go_wp2_with fail
      refine (HNM.out _).mono ?_
      rintro e w1 ⟨rfl, hb1⟩
      have HB1 := Lib.hid hb1
      clear hb1
      go_wp2_with fail
      go_ret
      exact ⟨ret_bool hV2.out.symm, ((Below.refl _ _).alloc (Nat.le_refl _) _).trans (HB1.out.mono (by simp))⟩
    · have hV2 : Hid (V = false) := by show V = false; rw [hV.out, decide_eq_false hn]; rfl
      have g1 : (num == 0) = false := beq_eq_false_iff_ne.2 hn
      clear hV hn
      go_enter Tryd.func21, Tryd.ntmps21
      go_wp2_with fail
      go_ret
      exact ⟨ret_bool hV2.out.symm, (Below.refl _ _).alloc (Nat.le_refl _) _⟩
  by_cases h2 : k = 2
  · subst h2
    have hV : Hid (rvalT ⟨2, num, st, er⟩ = (decide (0 ≤ num) && decide (st = []))) := rfl
    generalize rvalT ⟨2, num, st, er⟩ = V at *
    clear HNM hn h1
    by_cases h0 : 0 ≤ num
    · cases dY : (st == [])
      · have d2 : ¬ st = [] := by intro q; rw [q] at dY; exact absurd dY (by decide)
        have d3 : st.isEmpty = false := by cases st with | nil => exact absurd rfl d2 | cons => rfl
        have hV2 : Hid (V = false) := by show V = false; rw [hV.out, decide_eq_false d2, Bool.and_false]
        clear hV
        go_enter Tryd.func21, Tryd.ntmps21
        go_wp2
        go_ret
        exact ⟨ret_bool hV2.out.symm, (Below.refl _ _).alloc (Nat.le_refl _) _⟩
      · have d2 : st = [] := by simpa using dY
        subst d2
        have hV2 : Hid (V = true) := by show V = true; rw [hV.out, decide_eq_true h0]; rfl
        clear hV dY
        go_enter Tryd.func21, Tryd.ntmps21
        go_wp2
        go_ret
        exact ⟨ret_bool hV2.out.symm, (Below.refl _ _).alloc (Nat.le_refl _) _⟩
    · have hV2 : Hid (V = false) := by show V = false; rw [hV.out, decide_eq_false h0]; rfl
      clear hV
      go_enter Tryd.func21, Tryd.ntmps21
      go_wp2
      go_ret
      exact ⟨ret_bool hV2.out.symm, (Below.refl _ _).alloc (Nat.le_refl _) _⟩
  clear HNM
  by_cases h3 : k = 3
  · subst h3
    have hV : Hid (rvalT ⟨3, num, st, er⟩ = (decide (num = 0) && keywords.contains st)) := rfl
    generalize rvalT ⟨3, num, st, er⟩ = V at *
    rcases hn with rfl | hn
    · have hV2 : Hid (V = keywords.contains st) := by show V = _; rw [hV.out]; simp
      clear hV h1 h2
      go_enter Tryd.func21, Tryd.ntmps21
      go_wp2_with fail
      have HIN := Lib.hid (fun (W : World) (g : Nat) (h : W.heap[g]? = some (strBlock keywords)) => rin_any keywords 25 rfl (by decide) (S st) g W h)
      rw [S_toList] at HIN
      generalize keywords.contains st = nb at *
      have HBZ := ((Below.refl w.heap.size w).alloc (Nat.le_refl _) (.cells #[.int .i64 3, .int .i64 0, .string (S st), .int .i64 a, .int .i64 b] 37)).alloc (by simp) (strBlock keywords)
      first | go_region_with (first | (go_at_call 40; refine (rkeywords_any _).mono ?_; rintro e w1 ⟨rfl, rfl⟩) | (go_at_call 39; refine (HIN.out _ _ (by exact heap_new2 w _ _)).mono ?_; rintro e w2 ⟨rfl, rfl⟩)) | done
      all_goals
        go_wp2_with fail
        go_ret
        exact ⟨ret_bool hV2.out.symm, ⟨HBZ.os, HBZ.tape, HBZ.output, HBZ.size, HBZ.block⟩⟩
    · have hV2 : Hid (V = false) := by show V = false; rw [hV.out, decide_eq_false hn]; rfl
      have g1 : (num == 0) = false := beq_eq_false_iff_ne.2 hn
      clear hV hn h1 h2
      go_enter Tryd.func21, Tryd.ntmps21
      go_wp2_with fail
      have HBZ := (Below.refl w.heap.size w).alloc (Nat.le_refl _) (.cells #[.int .i64 3, .int .i64 num, .string (S st), .int .i64 a, .int .i64 b] 37)
      first | go_region_with (fail) | done
      all_goals
        go_wp2_with fail
        go_ret
        exact ⟨ret_bool hV2.out.symm, ⟨HBZ.os, HBZ.tape, HBZ.output, HBZ.size, HBZ.block⟩⟩
  by_cases h4 : k = 4
  · subst h4
    have hV : Hid (rvalT ⟨4, num, st, er⟩ = (decide (num = 0) && symbolsL.contains st)) := rfl
    generalize rvalT ⟨4, num, st, er⟩ = V at *
    rcases hn with rfl | hn
    · have hV2 : Hid (V = symbolsL.contains st) := by show V = _; rw [hV.out]; simp
      clear hV h1 h2 h3
      go_enter Tryd.func21, Tryd.ntmps21
      go_wp2_with fail
      have HIN := Lib.hid (fun (W : World) (g : Nat) (h : W.heap[g]? = some (strBlock symbolsL)) => rin_any symbolsL 59 rfl (by decide) (S st) g W h)
      rw [S_toList] at HIN
      generalize symbolsL.contains st = nb at *
      have HBZ := ((Below.refl w.heap.size w).alloc (Nat.le_refl _) (.cells #[.int .i64 4, .int .i64 0, .string (S st), .int .i64 a, .int .i64 b] 37)).alloc (by simp) (strBlock symbolsL)
      first | go_region_with (first | (go_at_call 41; refine (symbols_ref _).mono ?_; rintro e w1 ⟨rfl, rfl⟩) | (go_at_call 39; refine (HIN.out _ _ (by exact heap_new2 w _ _)).mono ?_; rintro e w2 ⟨rfl, rfl⟩)) | done
      all_goals
        go_wp2_with fail
        go_ret
        exact ⟨ret_bool hV2.out.symm, ⟨HBZ.os, HBZ.tape, HBZ.output, HBZ.size, HBZ.block⟩⟩
    · have hV2 : Hid (V = false) := by show V = false; rw [hV.out, decide_eq_false hn]; rfl
      have g1 : (num == 0) = false := beq_eq_false_iff_ne.2 hn
      clear hV hn h1 h2 h3
      go_enter Tryd.func21, Tryd.ntmps21
      go_wp2_with fail
      have HBZ := (Below.refl w.heap.size w).alloc (Nat.le_refl _) (.cells #[.int .i64 4, .int .i64 num, .string (S st), .int .i64 a, .int .i64 b] 37)
      first | go_region_with (fail) | done
      all_goals
        go_wp2_with fail
        go_ret
        exact ⟨ret_bool hV2.out.symm, ⟨HBZ.os, HBZ.tape, HBZ.output, HBZ.size, HBZ.block⟩⟩
  · have hV : Hid (rvalT ⟨k, num, st, er⟩ = false) := by show rvalT _ = _; unfold rvalT; rw [if_neg h1, if_neg h2, if_neg h3, if_neg h4]
    generalize rvalT ⟨k, num, st, er⟩ = V at *
    have g1 : (k == 1) = false := beq_eq_false_iff_ne.2 h1
    have g2 : (k == 2) = false := beq_eq_false_iff_ne.2 h2
    have g3 : (k == 3) = false := beq_eq_false_iff_ne.2 h3
    have g4 : (k == 4) = false := beq_eq_false_iff_ne.2 h4
    clear h1 h2 h3 h4 hn
    go_enter Tryd.func21, Tryd.ntmps21
    go_wp2_with fail
    go_ret
    exact ⟨ret_bool hV.out.symm, (Below.refl _ _).alloc (Nat.le_refl _) _⟩

end Go.Proofs.YtoogbgmneabfnaaDoor

namespace Go.Proofs.YtoogbgmneabfnaaDoor
open Go.RowKit M

theorem RSt.setP {w : World} {Pr : Nat → Prop} {g : Nat} {s : LSt} (h : RSt w Pr g s) {b : Nat} (hb : Pr b) (o : Nat) (u : Value) : RSt (w.setCell ⟨b, o, none⟩ u) Pr g s := by
  obtain ⟨vt, vc, q⟩ := h
  refine ⟨vt, vc, q.blk.far (p := ⟨b, o, none⟩) (fun e => q.ng (e ▸ hb)) u, owns_set q.rt (fun e => q.nt _ e hb) u, owns_set q.rc (fun e => q.nc _ e hb) u, q.ng, q.nt, q.nc, fun k hk => ?_⟩
  have := q.lt k hk
  simpa [World.setCell] using this
theorem one_own (w : World) (o : Obj) : ((w.alloc (.cells #[.int .i64 1] 3)).alloc o).ownsRow 0 3 1 (.slice (some ⟨w.heap.size, 0, none⟩) 1 1) 1 (colCells [1]) :=
  ⟨rfl, .inr ⟨w.heap.size, 1, #[.int .i64 1], rfl, Nat.zero_le _, heap_alloc2_old w _ o, Nat.le_refl _, by unfold maxLen; omega, rfl, rfl⟩⟩
/-- the inserter as it begins -/
theorem rstart (w : World) : RSt ((w.alloc (.cells #[.int .i64 1] 3)).alloc (.cells #[.slice none 0 0, .slice (some ⟨w.heap.size, 0, none⟩) 1 1, .int .i64 0, .int .i64 0, .int .i64 0, .int .i64 0] 51)) (· < w.heap.size) (w.heap.size + 1) ⟨[], [1], (0, 0), (0, 0), (0, 0)⟩ := by
  refine ⟨.slice none 0 0, .slice (some ⟨w.heap.size, 0, none⟩) 1 1, heap_new2 w _ _, World.ownsRow_nil _ _ _ _, one_own w _, by simp, fun k hk => ?_, fun k hk => ?_, fun k hk => ?_⟩
  · simp [Value.ownBlock] at hk
  · have : w.heap.size = k := by simpa [Value.ownBlock] using hk
    omega
  · have hk : k < w.heap.size := hk
    simp; omega
theorem RAt.item_ {w : World} {Pr : Nat → Prop} {g : Nat} {s : LSt} {vt vc : Value} (h : RAt w Pr g s vt vc) (x y : Int) :
    RSt ((w.setCell ⟨g, 2, none⟩ (.int .i64 x)).setCell ⟨g, 3, none⟩ (.int .i64 y)) Pr g { s with item := (x, y) } ∧ Keep Pr w ((w.setCell ⟨g, 2, none⟩ (.int .i64 x)).setCell ⟨g, 3, none⟩ (.int .i64 y)) :=
  ⟨⟨vt, vc, (h.blk.set_ 2 _).set_ 3 _, owns_set (owns_set h.rt h.gt _) h.gt _, owns_set (owns_set h.rc h.gc _) h.gc _, h.ng, h.nt, h.nc, fun k hk => by have := h.lt k hk; simpa [World.setCell] using this⟩,
    ((Keep.refl Pr w).setCell (p := ⟨g, 2, none⟩) h.ng _).setCell (p := ⟨g, 3, none⟩) h.ng _⟩
theorem RAt.line_ {w : World} {Pr : Nat → Prop} {g : Nat} {s : LSt} {vt vc : Value} (h : RAt w Pr g s vt vc) (x y : Int) :
    RSt ((w.setCell ⟨g, 4, none⟩ (.int .i64 x)).setCell ⟨g, 5, none⟩ (.int .i64 y)) Pr g { s with line := (x, y) } ∧ Keep Pr w ((w.setCell ⟨g, 4, none⟩ (.int .i64 x)).setCell ⟨g, 5, none⟩ (.int .i64 y)) :=
  ⟨⟨vt, vc, (h.blk.set_ 4 _).set_ 5 _, owns_set (owns_set h.rt h.gt _) h.gt _, owns_set (owns_set h.rc h.gc _) h.gc _, h.ng, h.nt, h.nc, fun k hk => by have := h.lt k hk; simpa [World.setCell] using this⟩,
    ((Keep.refl Pr w).setCell (p := ⟨g, 4, none⟩) h.ng _).setCell (p := ⟨g, 5, none⟩) h.ng _⟩
theorem RSt.item_ {w : World} {Pr : Nat → Prop} {g : Nat} {s : LSt} (h : RSt w Pr g s) (x y : Int) :
    RSt ((w.setCell ⟨g, 2, none⟩ (.int .i64 x)).setCell ⟨g, 3, none⟩ (.int .i64 y)) Pr g { s with item := (x, y) } ∧ Keep Pr w ((w.setCell ⟨g, 2, none⟩ (.int .i64 x)).setCell ⟨g, 3, none⟩ (.int .i64 y)) := by
  obtain ⟨_, _, h⟩ := h; exact h.item_ x y
theorem RSt.line_ {w : World} {Pr : Nat → Prop} {g : Nat} {s : LSt} (h : RSt w Pr g s) (x y : Int) :
    RSt ((w.setCell ⟨g, 4, none⟩ (.int .i64 x)).setCell ⟨g, 5, none⟩ (.int .i64 y)) Pr g { s with line := (x, y) } ∧ Keep Pr w ((w.setCell ⟨g, 4, none⟩ (.int .i64 x)).setCell ⟨g, 5, none⟩ (.int .i64 y)) := by
  obtain ⟨_, _, h⟩ := h; exact h.line_ x y
theorem RSt.cells {w : World} {Pr : Nat → Prop} {g : Nat} {s : LSt} (h : RSt w Pr g s) : w.cell? ⟨g, 2, none⟩ = some (.int .i64 s.item.1) ∧ w.cell? ⟨g, 3, none⟩ = some (.int .i64 s.item.2) ∧ w.cell? ⟨g, 4, none⟩ = some (.int .i64 s.line.1) ∧ w.cell? ⟨g, 5, none⟩ = some (.int .i64 s.line.2) ∧ ∀ i, w.frozen? ⟨g, i, none⟩ = false := by
  obtain ⟨_, _, h⟩ := h
  exact ⟨h.blk.cell 2, h.blk.cell 3, h.blk.cell 4, h.blk.cell 5, fun i => h.blk.frozen i⟩
theorem RSt.last_ {w : World} {Pr : Nat → Prop} {g : Nat} {s : LSt} (h : RSt w Pr g s) (p : Int × Int) : RSt w Pr g { s with last := p } := by
  obtain ⟨vt, vc, h⟩ := h
  exact ⟨vt, vc, h.blk, h.rt, h.rc, h.ng, h.nt, h.nc, h.lt⟩
def RIRel (w : World) (L : Nat) (ts : List Tok) (i : Value) (wr : World) : Prop :=
  ∃ (k : Nat) (s : LSt), k ≤ ts.length ∧ i = .int .i64 k ∧ LInv k s ∧ RInv k s ∧ RSt wr (orOne (· < w.heap.size + 1) L) (w.heap.size + 1 + 1) s ∧ Keep (· < w.heap.size + 1) (w.alloc (.cells #[.int .i64 0, .int .i64 0] 29)) wr ∧
    Blk wr L 29 #[.int .i64 (lastR k s).1, .int .i64 (lastR k s).2] ∧ insL ts = insF s (ts.drop k)

/-- where the ways through a token's switch meet: what is left is to append the token and to look at its keyword -/
def JRel (W : World) (Pr : Nat → Prop) (g : Nat) (s : LSt) (tk : Tok) (wx : World) : Prop :=
  ∃ s2 : LSt, addL s tk = (0, finL s2.out s2.cols s2.item s2.line tk) ∧ s2.out.length ≤ 1000000000 ∧ RSt wx Pr g s2 ∧ Keep Pr W wx

end Go.Proofs.YtoogbgmneabfnaaDoor
