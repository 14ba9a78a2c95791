/- The variables of a list of nodes, in the order of their first occurrence: what Vars returns. Condition: at most 1048576 nodes. -/
import Derived.Test.YtcnanbmbdajcaaaDoorTyD
import Derived.Test.YtcnanbmbdajcaaaDoorMapI
namespace Go.Proofs.YtcnanbmbdajcaaaDoor
open Go.RowKit M

def addV (acc : List Int) (t : TN) : List Int := if t.1 = 1 ∧ t.2.1 ∉ acc then acc ++ [t.2.1] else acc
def varsL (ts : List TN) : List Int := ts.foldl addV []
theorem varsL_step {ts : List TN} {j : Nat} {t : TN} (h : ts[j]? = some t) : varsL (ts.take (j + 1)) = addV (varsL (ts.take j)) t := by
  unfold varsL
  rw [List.take_add_one, h, List.foldl_append]
  rfl
theorem addV_len (acc : List Int) (t : TN) : (addV acc t).length ≤ acc.length + 1 := by
  unfold addV; split <;> simp
theorem varsL_len (ts : List TN) : ∀ j, (varsL (ts.take j)).length ≤ j := by
  intro j
  induction j with
  | zero => simp [varsL]
  | succ j ih =>
    cases h : ts[j]? with
    | none => rw [List.take_add_one, h]; simp; omega
    | some t => rw [varsL_step h]; have := addV_len (varsL (ts.take j)) t; omega
abbrev seenB (l : List Int) : List (Int × Value) := l.map fun v => (v, Value.bool true)
theorem seen_find (l : List Int) (k : Int) : (seenB l).find? (fun p => decide (p.1 = k)) = if k ∈ l then some (k, .bool true) else none := by
  induction l with
  | nil => rfl
  | cons a r ih =>
    show List.find? _ ((a, Value.bool true) :: seenB r) = _
    by_cases h : a = k
    · subst h
      rw [List.find?_cons_of_pos (by simp), if_pos (by simp)]
    · rw [List.find?_cons_of_neg (by simp [h]), ih]
      have h' : ¬ k = a := fun e => h e.symm
      by_cases hk : k ∈ r
      · rw [if_pos hk, if_pos (by simp [hk])]
      · rw [if_neg hk, if_neg (by simp [hk, h'])]
theorem bool_info : (Tryd.prog.info? 4).map (·.zero) = some (some (.bool false)) := by kernel_rfl
theorem zero_bool (w : World) : (zeroValue 4).run Tryd.prog w = .ok (.bool false) w := by
  have h := bool_info
  cases hi : Tryd.prog.info? 4 with
  | none => rw [hi] at h; cases h
  | some i => rw [hi] at h; simp only [Option.map_some, Option.some.injEq] at h; exact run_zero_of hi h w
theorem int_info : (Tryd.prog.info? 3).map (fun i => (i.zero, i.size, i.bytes)) = some (some (.int .i64 0), 1, 8) := by kernel_rfl
abbrev intsV (l : List Int) : List Value := l.map (Value.int .i64)
theorem intsV_append (a b : List Int) : intsV (a ++ b) = intsV a ++ intsV b := List.map_append
theorem seenB_append (a b : List Int) : seenB (a ++ b) = seenB a ++ seenB b := List.map_append
/-- a call that returns a list of numbers in a row of its own -/
def IntsPost (l : List Int) (w : World) (e : Ending) (w' : World) : Prop :=
  ∃ v, e = .returned v ∧ w'.ownsRow w.heap.size 3 1 v l.length (intsV l) ∧ Below w.heap.size w w'

set_option maxRecDepth 100000 in
set_option maxHeartbeats 6400000 in
theorem vars_any (w : World) (A : Option Addr) (n c : Nat) (ts : List TN) (hn : n = ts.length) (hl : n ≤ 1048576) (hA : InC w A (ts.flatMap ndCells)) :
    Calls Tryd.prog 12 #[.slice A n c] w (IntsPost (varsL ts) w) := by
  have HA := hide hA
  have HN := Lib.hid hn
  have hmm := @run_makeMap Tryd.prog
  clear hA hn
  go_enter Tryd.func12, Tryd.ntmps12
  go_wp2_with fail
  clear hmm
  go_loopw [3, 10] (fun v i wr => ∃ j : Nat, i = .int .i64 j ∧ j ≤ n ∧ Hid (wr.ownsRow w.heap.size 3 1 v (varsL (ts.take j)).length (intsV (varsL (ts.take j)))) ∧ Hid (IMap wr w.heap.size (seenB (varsL (ts.take j)))) ∧ Hid (Below w.heap.size w wr) ∧ w.heap.size < wr.heap.size) (fun _ i _ => n - (intOf i).toNat)
  case atStart => exact ⟨0, rfl, by omega, World.ownsRow_nil _ _ _ _, IMap.made w, (Below.refl _ _).alloc (Nat.le_refl _) _, by simp⟩
  case round =>
    obtain ⟨j, rfl, hj, hO, hM, hB, hz⟩ := hrel
    obtain ⟨A3, c3, rfl⟩ := owns_form hO.out
    have hvl := varsL_len ts j
    by_cases hlt : j < n
    · have hjl : j < ts.length := by rw [← HN.out]; exact hlt
      obtain ⟨t, ht⟩ : ∃ t, ts[j]? = some t := ⟨ts[j], List.getElem?_eq_getElem hjl⟩
      obtain ⟨b, off, rfl, hb, hcell⟩ := ((unhide HA).below hB.out).elem nd_len ht (by decide)
      have x0 := hcell 0 _ rfl
      have x1 := hcell 1 _ rfl
      have x2 := hcell 2 _ rfl
      have hstep := varsL_step ht
      obtain ⟨k, num, kids⟩ := t
      simp only [Nat.add_zero] at x0 x1 x2
      obtain ⟨i0, hi0, hiz0, hiz1, hiz2⟩ := info_parts int_info
      have hbz := hB.out.size
      clear hcell ht hjl
      have hsf := seen_find (varsL (ts.take j)) num
      by_cases hk1 : k = 1
      · subst hk1
        by_cases hin : num ∈ varsL (ts.take j)
        · have hst2 : varsL (ts.take (j + 1)) = varsL (ts.take j) := by rw [hstep]; unfold addV; rw [if_neg (by simp [hin])]
          have HST := Lib.hid hst2
          have hlk := (hM.out.alloc (.cells #[.int .i64 1, .int .i64 num, .int .i64 kids] 33)).look (P := Tryd.prog) (t := 53) Tryd.underlying53 Tryd.underlying3 (zero_bool _) num false
          rw [hsf, if_pos hin] at hlk
          simp only [Bool.false_eq_true, if_false] at hlk
          clear hsf hin hst2 hstep
          go_wp2_with fail
          go_roundw
          case rel => exact ⟨j + 1, by go_num, by omega, by rw [HST.out]; exact hO.out.alloc _, by rw [HST.out]; exact hM.out.alloc _, hB.out.alloc hbz _, by simp; omega⟩
          case measure => simp [intOf]; omega
        · have hst2 : varsL (ts.take (j + 1)) = varsL (ts.take j) ++ [num] := by rw [hstep]; unfold addV; rw [if_pos ⟨rfl, hin⟩]
          have HST := Lib.hid hst2
          have hlk := (hM.out.alloc (.cells #[.int .i64 1, .int .i64 num, .int .i64 kids] 33)).look (P := Tryd.prog) (t := 53) Tryd.underlying53 Tryd.underlying3 (zero_bool _) num false
          rw [hsf, if_neg hin] at hlk
          simp only [Bool.false_eq_true, if_false] at hlk
          have hnone := Lib.hid (hsf.trans (if_neg hin))
          have HNE := hide (own_imap_ne' hO.out hM.out)
          clear hsf hin hst2 hstep
          go_wp2_with (first
            | (at_mapUpdate; refine wpList_put_i _ rfl _ _ _ 53 rfl 3 4 Tryd.underlying53 Tryd.underlying3 w.heap.size _ num (.bool true) rfl rfl rfl (hM.out.alloc _) hnone.out ?_; intro w4 hm4 hg4; have hO4 := owns_other (hO.out.alloc _) hg4 (fun q hq e => (unhide HNE) (by rw [hq]; exact e)); have HB4 := hide (below_grown (hB.out.alloc hbz _) hg4 (Nat.le_refl _) (Nat.le_refl _)); have HM4 := hide hm4; have HO4 := hide hO4; have hz4 : wr.heap.size + 1 ≤ w4.heap.size := (by have := hg4.size; simpa using this); have y1 : w4.cell? ⟨wr.heap.size, 1, none⟩ = some (.int .i64 num) := ((World.cell?_of_block (hg4.block wr.heap.size (by simp) (by intro e; injection e with e; omega))).trans ((Blk.new wr 33 #[.int .i64 1, .int .i64 num, .int .i64 kids]).cell 1)); clear hm4 hg4 hO4)
            | (at_builtin; refine wpList_app _ rfl _ _ 23 rfl w.heap.size 3 i0 _ 1 8 Tryd.underlying23 hi0 hiz0 hiz1 hiz2 rfl (by decide) _ _ _ rfl ((unhide HO4).alloc _) _ 1 1 [.int .i64 num] rfl rfl (new_in _ _ #[.int .i64 num]) (by intro u hu; simp at hu; subst hu; rfl) (by unfold maxLen; omega) (by omega) (by simp; omega) ?_; intro v5 w5 hown5 hgrow5 _))
          have HB5 := hide (below_app ((unhide HB4).alloc (by omega) _) ((unhide HO4).alloc _) hgrow5)
          have HM5 := hide (((unhide HM4).alloc _).kept hgrow5 (unhide HNE))
          have hz5 : w.heap.size < w5.heap.size := by have := hgrow5.size; simp at this; omega
          have HO5 : Hid (w5.ownsRow w.heap.size 3 1 v5 (varsL (ts.take (j + 1))).length (intsV (varsL (ts.take (j + 1))))) := by
            show World.ownsRow _ _ _ _ _ _ _
            rw [HST.out, List.length_append, intsV_append]
            exact hown5
          have HM6 : Hid (IMap w5 w.heap.size (seenB (varsL (ts.take (j + 1))))) := by
            show IMap _ _ _
            rw [HST.out, seenB_append]
            exact unhide HM5
          clear hown5 hgrow5
          go_roundw
          case rel => exact ⟨j + 1, by go_num, by omega, HO5, unhide HM6, unhide HB5, hz5⟩
          case measure => simp [intOf]; omega
      · have hst2 : varsL (ts.take (j + 1)) = varsL (ts.take j) := by rw [hstep]; unfold addV; rw [if_neg (fun q => hk1 q.1)]
        have HST := Lib.hid hst2
        have g1 : (k == 1) = false := beq_eq_false_iff_ne.2 hk1
        clear hsf hst2 hstep hk1
        go_wp2_with fail
        go_roundw
        case rel => exact ⟨j + 1, by go_num, by omega, by rw [HST.out]; exact hO.out.alloc _, by rw [HST.out]; exact hM.out.alloc _, hB.out.alloc hbz _, by simp; omega⟩
        case measure => simp [intOf]; omega
    · have htk : ts.take j = ts := List.take_of_length_le (by rw [← HN.out]; omega)
      rw [htk] at hO ⊢
      have HOr := hide (unhide hO)
      clear htk hO hM hvl
      go_wp2_with fail
      go_ret
      exact ⟨_, rfl, unhide HOr, hB.out⟩

end Go.Proofs.YtcnanbmbdajcaaaDoor
