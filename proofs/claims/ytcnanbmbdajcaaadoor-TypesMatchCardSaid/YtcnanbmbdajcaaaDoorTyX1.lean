/- The program's Canon: a type with its variables renumbered. Condition: a list of nodes has a length. -/
import Derived.Test.YtcnanbmbdajcaaaDoorTyX0
import Derived.Test.YtcnanbmbdajcaaaDoorTyB
import Derived.Test.YtcnanbmbdajcaaaDoorTyI
import Derived.Laws.OwnMore
namespace Go.Proofs.YtcnanbmbdajcaaaDoor
open Go.RowKit M

set_option maxRecDepth 100000 in
set_option maxHeartbeats 1600000 in
/-- a copy of nodes -/
theorem clone_any (w : World) (A : Option Addr) (n c : Nat) (ts : List TN) (hn : n = ts.length) (hl : n ≤ 1048576) (hA : InC w A (ts.flatMap ndCells)) :
    Calls Tryd.prog 31 #[.slice A n c] w (RowPost ts w) := by
  have hlen := flat_len (f := ndCells) (z := 3) nd_len ts
  have HN := Lib.hid hn
  obtain ⟨i0, hi0, hiz0, hiz1, hiz2⟩ := info_parts node_info
  have q22 : ∀ (w : World) (a : Option Addr) (n c n' c' : Nat), (binOp .eql 22 (.slice a n c) (.slice none n' c')).run Tryd.prog w = .ok (.bool a.isNone) w := fun w a n c n' c' => Lib.run_eql_slice_nil w _ _ a n c n' c' Tryd.underlying22
  cases A with
  | none =>
    have h0 : ts = [] := by
      rcases hA with h | ⟨b, off, e, _⟩
      · have := congrArg List.length h
        rw [hlen] at this
        exact List.eq_nil_of_length_eq_zero (by simp at this; omega)
      · cases e
    subst h0
    clear hA hn
    go_enter Tryd.func31, Tryd.ntmps31
    go_wp2_with fail
    go_ret
    exact ⟨_, rfl, World.ownsRow_nil _ _ _ _, Below.refl _ _⟩
  | some ad =>
  have HA := hide hA
  clear hn hA
  go_enter Tryd.func31, Tryd.ntmps31
  go_wp2_with (at_builtin; refine wpList_app _ rfl _ _ 22 rfl w.heap.size 33 i0 _ 3 24 Tryd.underlying22 hi0 hiz0 hiz1 hiz2 rfl (by decide) _ 0 [] rfl (World.ownsRow_lit w #[] 0 (Nat.le_refl _) (by unfold maxLen; omega) rfl) _ n c (ts.flatMap ndCells) rfl (by rw [hlen, HN.out]) ((unhide HA).alloc _) (nd_one ts) (by unfold maxLen; omega) (by omega) (by simp) ?_; intro v1 w1 hown1 hgrow1 _)
  rw [Nat.zero_add, List.nil_append] at hown1
  have HB1 := hide (below_app ((Below.refl w.heap.size w).alloc (Nat.le_refl _) _) (World.ownsRow_lit (base := w.heap.size) (e := 33) (size := 3) w #[] 0 (Nat.le_refl _) (by unfold maxLen; omega) rfl) hgrow1)
  have HO1 := hide hown1
  clear hgrow1 hown1
  go_wp2_with fail
  go_ret
  exact ⟨_, rfl, by rw [← HN.out]; exact unhide HO1, unhide HB1⟩

/-- numbers and their places -/
def numB : Nat → List Int → List (Int × Value)
  | _, [] => []
  | k, v :: r => (v, .int .i64 k) :: numB (k + 1) r
theorem numB_snoc : ∀ (l : List Int) (k : Nat) (v : Int), numB k (l ++ [v]) = numB k l ++ [(v, .int .i64 ((k + l.length : Nat) : Int))] := by
  intro l
  induction l with
  | nil => intro k v; rfl
  | cons a r ih => intro k v; show _ :: numB (k + 1) (r ++ [v]) = _ :: (numB (k + 1) r ++ _); rw [ih]; simp [Nat.add_assoc, Nat.add_comm 1]
theorem numB_find (x : Int) : ∀ (l : List Int) (k : Nat), (numB k l).find? (fun p => decide (p.1 = x)) = if x ∈ l then some (x, .int .i64 ((k + l.idxOf x : Nat) : Int)) else none := by
  intro l
  induction l with
  | nil => intro k; rfl
  | cons a r ih =>
    intro k
    show List.find? _ ((a, _) :: numB (k + 1) r) = _
    by_cases h : a = x
    · subst h
      rw [List.find?_cons_of_pos (by simp), if_pos (by simp)]
      simp
    · have hb : (a == x) = false := beq_eq_false_iff_ne.2 h
      rw [List.find?_cons_of_neg (by simp [h]), ih]
      have h' : ¬ x = a := fun e => h e.symm
      by_cases hk : x ∈ r
      · rw [if_pos hk, if_pos (by simp [hk]), List.idxOf_cons, hb]
        simp only [Option.some.injEq, Prod.mk.injEq, true_and, Value.int.injEq]
        simp; omega
      · rw [if_neg hk, if_neg (by simp [hk, h'])]
/-- the first j nodes renumbered -/
def accC (ts : List TN) (j : Nat) : List TN := (ts.take j).map (canonN ts) ++ ts.drop j
theorem accC_len (ts : List TN) (j : Nat) : (accC ts j).length = ts.length := by unfold accC; simp; omega
theorem accC_at {ts : List TN} {j : Nat} {t : TN} (h : ts[j]? = some t) : (accC ts j)[j]? = some t := by
  unfold accC
  have hj := (List.getElem?_eq_some_iff.1 h).1
  rw [List.getElem?_append_right (by simp; omega)]
  simp [Nat.min_eq_left (Nat.le_of_lt hj), h]
theorem accC_step {ts : List TN} {j : Nat} {t : TN} (h : ts[j]? = some t) : accC ts (j + 1) = (accC ts j).set j (canonN ts t) := by
  have hj := (List.getElem?_eq_some_iff.1 h).1
  apply List.ext_getElem?
  intro i
  rw [List.getElem?_set]
  unfold accC
  by_cases hi : j = i
  · subst hi
    rw [if_pos rfl, if_pos (by simp; omega), List.getElem?_append_left (by simp; omega), List.getElem?_map, List.getElem?_take, if_pos (by omega), h]; rfl
  · rw [if_neg hi]
    by_cases hl : i < j
    · rw [List.getElem?_append_left (by simp; omega), List.getElem?_append_left (by simp; omega), List.getElem?_map, List.getElem?_map, List.getElem?_take, List.getElem?_take, if_pos (by omega), if_pos hl]
    · rw [List.getElem?_append_right (by simp; omega), List.getElem?_append_right (by simp; omega), List.getElem?_drop, List.getElem?_drop]
      congr 1
      simp only [List.length_map, List.length_take]
      omega
theorem nd_set {l : List TN} {j : Nat} {k num kids : Int} (h : l[j]? = some (k, num, kids)) (m : Int) : (l.flatMap ndCells).set (j * 3 + 1) (.int .i64 m) = (l.set j (k, m, kids)).flatMap ndCells := by
  induction l generalizing j with
  | nil => simp at h
  | cons t r ih =>
    cases j with
    | zero =>
      have : t = (k, num, kids) := by simpa using h
      subst this
      rfl
    | succ j =>
      have hl : (ndCells t).length = 3 := rfl
      rw [List.flatMap_cons, List.set_append_right _ _ (by rw [hl]; omega), hl, List.set_cons_succ, List.flatMap_cons]
      congr 1
      rw [show (j + 1) * 3 + 1 - 3 = j * 3 + 1 by omega]
      exact ih (by simpa using h)
theorem accC_all {ts : List TN} {j : Nat} (h : ts.length ≤ j) : accC ts j = canonL ts := by
  unfold accC canonL
  rw [List.take_of_length_le h, List.drop_eq_nil_of_le h, List.append_nil]
theorem int_zinfo : (Tryd.prog.info? 3).map (·.zero) = some (some (.int .i64 0)) := by kernel_rfl
theorem zero_int (w : World) : (zeroValue 3).run Tryd.prog w = .ok (.int .i64 0) w := by
  have h := int_zinfo
  cases hi : Tryd.prog.info? 3 with
  | none => rw [hi] at h; cases h
  | some i => rw [hi] at h; simp only [Option.map_some, Option.some.injEq] at h; exact run_zero_of hi h w
def canV (ts : List TN) : List TN := if valT ts = true then canonL ts else []
theorem vars_nodup (ts : List TN) : (varsL ts).Nodup := by
  have key : ∀ (l : List TN) (acc : List Int), acc.Nodup → (l.foldl addV acc).Nodup := by
    intro l
    induction l with
    | nil => intro acc h; exact h
    | cons t r ih =>
      intro acc h
      refine ih _ ?_
      unfold addV
      split
      · rename_i q; exact List.nodup_append.2 ⟨h, by simp, fun a ha b hb => by simp at hb; rintro rfl; exact q.2 (hb ▸ ha)⟩
      · exact h
  exact key ts [] (by simp)
theorem vars_fresh {l : List Int} (h : l.Nodup) {q : Nat} {u : Int} (hq : l[q]? = some u) : u ∉ l.take q := by
  intro hm
  obtain ⟨i, hi⟩ := List.getElem?_of_mem hm
  have hiq : i < q := by
    have := (List.getElem?_eq_some_iff.1 hi).1
    simp at this; omega
  rw [List.getElem?_take, if_pos hiq] at hi
  obtain ⟨l1, e1⟩ := List.getElem?_eq_some_iff.1 hi
  obtain ⟨l2, e2⟩ := List.getElem?_eq_some_iff.1 hq
  exact List.pairwise_iff_getElem.1 h i q l1 l2 hiq (e1.trans e2.symm)

theorem InC.at1' {w : World} {A : Option Addr} {xs : List Value} (h : InC w A xs) {i : Nat} {u : Value} (hi : xs[i]? = some u) : ∃ b off, A = some ⟨b, off, none⟩ ∧ b < w.heap.size ∧ w.cell? ⟨b, off + i, none⟩ = some u := by
  rcases h with rfl | ⟨b, off, h1, h2, h3⟩
  · simp at hi
  · exact ⟨b, off, h1, h2, h3 i u hi⟩
theorem set_same {α : Type} {l : List α} {i : Nat} {u : α} (h : l[i]? = some u) : l.set i u = l := by
  apply List.ext_getElem?
  intro j
  rw [List.getElem?_set]
  split
  · rename_i e; subst e
    split
    · exact h.symm
    · rename_i hl; rw [List.getElem?_eq_none (by omega)] at h; cases h
  · rfl

set_option maxRecDepth 100000 in
set_option maxHeartbeats 6400000 in
theorem canon_any (w : World) (A : Option Addr) (n cp : Nat) (ts : List TN) (hn : n = ts.length) (hl : n ≤ maxLen) (hcp : n ≤ cp) (hA : InC w A (ts.flatMap ndCells)) :
    Calls Tryd.prog 15 #[.slice A n cp] w (RowPost (canV ts) w) := by
  have HA := hide hA
  subst hn
  unfold maxLen at hl
  have hmm := @run_makeMap Tryd.prog
  clear hA
  go_enter Tryd.func15, Tryd.ntmps15
  go_wp2_with fail
  cases hv : valT ts
  · have HCV : Hid (canV ts = []) := Lib.hid (by unfold canV; rw [hv]; rfl)
    refine (valid_b ts _ hv _ A cp (by unfold maxLen; omega) hcp (unhide HA)).mono ?_
    rintro e w1 ⟨rfl, hb1⟩
    have HB1 := hide hb1
    clear hb1
    go_wp2_with fail
    go_ret
    exact ⟨_, rfl, by rw [HCV.out]; exact World.ownsRow_nil _ _ _ _, unhide HB1⟩
  · have HCV : Hid (canV ts = canonL ts) := Lib.hid (by unfold canV; rw [hv]; rfl)
    have hlen := valT_len hv
    have hne : ts ≠ [] := by rintro rfl; simp [valT, bt] at hv
    refine (valid_b ts _ hv _ A cp (by unfold maxLen; omega) hcp (unhide HA)).mono ?_
    rintro e w1 ⟨rfl, hb1⟩
    have HB1 := hide hb1
    have hz1 := hb1.size
    have HA1 := hide ((unhide HA).below hb1)
    clear hb1
    go_wp2_with fail
    clear hmm
    have HB1m := hide ((unhide HB1).alloc hz1 (.map #[] 0))
    have HM1 := hide (IMap.made w1)
    have HA1m := hide ((unhide HA1).alloc (.map #[] 0))
    have hmz : w1.heap.size < (w1.alloc (.map #[] 0)).heap.size := by simp
    generalize w1.alloc (.map #[] 0) = w2 at *
    generalize hgm : w1.heap.size = gm at *
    refine (vars_any w2 A ts.length cp ts rfl (by omega) (unhide HA1m)).mono ?_
    rintro e w3 ⟨v3, rfl, hO3, hb3⟩
    have hvl : (varsL ts).length ≤ ts.length := by have := varsL_len ts ts.length; rwa [List.take_length] at this
    have hnd := vars_nodup ts
    have HVI : Hid (∀ (x : Int), vIdx ts x = ((varsL ts).idxOf x : Nat)) := Lib.hid fun x => rfl
    have HVM : Hid (∀ (i : Nat) (t : TN), ts[i]? = some t → t.1 = 1 → t.2.1 ∈ varsL ts) := Lib.hid fun i t h1 h2 => varsL_mem h1 h2
    generalize varsL ts = L at *
    obtain ⟨A3, c3, rfl⟩ := owns_form hO3
    have HO3 := hide (owns_base (b' := w.heap.size) hO3 (by have := (unhide HB1m).size; omega))
    have HB3 := hide ((unhide HB1m).trans (hb3.mono (unhide HB1m).size))
    have HM3 := hide ((unhide HM1).below hb3 hmz)
    have HA3 := hide ((unhide HA1m).below hb3)
    have hgz : gm < w3.heap.size := by have := hb3.size; omega
    have hgw : w.heap.size ≤ gm := by omega
    clear hO3 hb3 HM1 HA1m HB1m
    go_wp2_with fail
    go_loopw [16] (fun i wr => ∃ j : Nat, i = .int .i64 j ∧ j ≤ L.length ∧ Hid (wr.ownsRow w.heap.size 3 1 (.slice A3 L.length c3) L.length (intsV L)) ∧ Hid (IMap wr gm (numB 0 (L.take j))) ∧ Hid (Below w.heap.size w wr) ∧ gm < wr.heap.size) (fun i _ => L.length - (intOf i).toNat)
    case atStart => exact ⟨0, rfl, by omega, unhide HO3, unhide HM3, unhide HB3, hgz⟩
    case round =>
      obtain ⟨j, rfl, hj, hO, hM, hB, hz⟩ := hrel
      by_cases hlt : j < L.length
      · have hLj : L[j]? = some L[j] := List.getElem?_eq_getElem hlt
        generalize L[j] = u at hLj
        obtain ⟨b5, o5, hA3e, hb5, hc5⟩ := (InC.own hO.out).at1' (i := j) (u := .int .i64 u) (by rw [List.getElem?_map, hLj]; rfl)
        have hnone : (numB 0 (L.take j)).find? (fun p => decide (p.1 = u)) = none := by rw [numB_find, if_neg (vars_fresh hnd hLj)]
        have HNO := Lib.hid hnone
        have HNX : Hid (numB 0 (L.take (j + 1)) = numB 0 (L.take j) ++ [(u, .int .i64 (j : Int))]) := by
          show _ = _
          rw [List.take_add_one, hLj]
          show numB 0 (L.take j ++ [u]) = _
          rw [numB_snoc, List.length_take, Nat.min_eq_left (by omega), Nat.zero_add]
        have HNE := hide (own_imap_ne' hO.out hM.out)
        subst hA3e
        clear hLj hnone
        go_wp2_with (at_mapUpdate; refine wpList_put_i _ rfl _ _ _ 55 rfl 3 3 Tryd.underlying55 Tryd.underlying3 gm _ u (.int .i64 (j : Int)) rfl rfl rfl hM.out HNO.out ?_; intro w4 hm4 hg4)
        have HO4 := hide (owns_other hO.out hg4 (fun q hq e => (unhide HNE) (by rw [hq]; exact e)))
        have HB4 := hide (below_grown hB.out hg4 hgw (Nat.le_refl _))
        have HM4 : Hid (IMap w4 gm (numB 0 (L.take (j + 1)))) := by show IMap _ _ _; rw [HNX.out]; exact hm4
        have hz4 : gm < w4.heap.size := by have := hg4.size; omega
        clear hm4 hg4
        go_wp2_with fail
        go_roundw
        case rel => exact ⟨j + 1, by go_num, by omega, unhide HO4, unhide HM4, unhide HB4, hz4⟩
        case measure => simp [intOf]; omega
      · have hjn : L.take j = L := List.take_of_length_le (by omega)
        rw [hjn] at hM
        have HMm := hide (unhide hM)
        have HBb := hide (unhide hB)
        have HAw := hide ((unhide HA).below hB.out)
        have hBz := hB.out.size
        clear hjn hM hB hO HO3 HA3 HB3 HM3
        obtain ⟨wo, hwo⟩ : ∃ x, x = wr := ⟨_, rfl⟩
        subst hwo
        go_wp2_with fail
        refine (clone_any _ A ts.length cp ts rfl (by omega) (unhide HAw)).mono ?_
        rintro e w6 ⟨v6, rfl, hO6, hb6⟩
        have HB6 := hide ((unhide HBb).trans (hb6.mono hBz))
        have HM6 := hide ((unhide HMm).below hb6 hz)
        have htp : 0 < ts.length := List.length_pos_iff.2 hne
        obtain ⟨g6, c6, rfl, hb6', hg6, hnc6, _⟩ := owns_cell hO6 htp
        have HO6 := hide (owns_base (b' := w.heap.size) hO6 hBz)
        have hgg : gm ≠ g6 := by omega
        clear hO6 hb6
        go_wp2_with fail
        go_loopw [29] (fun i wr => ∃ j : Nat, i = .int .i64 j ∧ j ≤ ts.length ∧ Hid (wr.ownsRow w.heap.size 33 3 (.slice (some ⟨g6, 0, none⟩) ts.length c6) ts.length ((accC ts j).flatMap ndCells)) ∧ Hid (IMap wr gm (numB 0 L)) ∧ Hid (Below w.heap.size w wr)) (fun i _ => ts.length - (intOf i).toNat)
        case atStart => exact ⟨0, rfl, by omega, unhide HO6, unhide HM6, unhide HB6⟩
        case round =>
          obtain ⟨j, rfl, hj, hO, hM, hB⟩ := hrel
          by_cases hlt : j < ts.length
          · obtain ⟨t, ht⟩ : ∃ t, ts[j]? = some t := ⟨ts[j], List.getElem?_eq_getElem hlt⟩
            have hac := accC_at ht
            have hst := accC_step ht
            obtain ⟨k, num, kids⟩ := t
            have x0 := hO.out.cellAt (j * 3) (by omega)
            have x1 := hO.out.cellAt (j * 3 + 1) (by omega)
            have x2 := hO.out.cellAt (j * 3 + 2) (by omega)
            have fz := hO.out.frozenAt (j * 3 + 1)
            have y0 := flat_at nd_len (accC ts j) j _ hac 0 _ rfl
            have y1 := flat_at nd_len (accC ts j) j _ hac 1 _ rfl
            have y2 := flat_at nd_len (accC ts j) j _ hac 2 _ rfl
            rw [Nat.add_zero] at y0
            rw [y0] at x0
            rw [y1] at x1
            rw [y2] at x2
            clear y0 y1 y2
            have hbz := hB.out.size
            by_cases hk : k = 1
            · subst hk
              have hmem := HVM.out j _ ht rfl
              have hlk := (hM.out.alloc (.cells #[.int .i64 1, .int .i64 num, .int .i64 kids] 33)).look (P := Tryd.prog) (t := 55) Tryd.underlying55 Tryd.underlying3 (zero_int _) num false
              rw [numB_find, if_pos hmem] at hlk
              simp only [Bool.false_eq_true, if_false, Nat.zero_add] at hlk
              have HST : Hid ((((accC ts j).flatMap ndCells).set (j * 3 + 1) (.int .i64 ((L.idxOf num : Nat) : Int))) = (accC ts (j + 1)).flatMap ndCells) := by
                show _ = _
                rw [nd_set hac, hst]
                unfold canonN
                rw [if_pos rfl, HVI.out]
              have hOa := hO.out.alloc (.cells #[.int .i64 1, .int .i64 num, .int .i64 kids] 33)
              have fza := hOa.frozenAt (j * 3 + 1)
              have x1a := hOa.cellAt (j * 3 + 1) (by omega)
              rw [flat_at nd_len (accC ts j) j _ hac 1 _ rfl] at x1a
              have hgl : g6 < wr.heap.size := ((hO.out.lt g6 rfl)).2
              clear hac hst ht hmem hOa
              go_wp2_with fail
              have hs := hO.out.stored (j * 3 + 1) (.int .i64 ((L.idxOf num : Nat) : Int))
              rw [HST.out] at hs
              have HS := hide hs.1
              have HMs := hide (hM.out.kept hs.2 (fun q => hgg (by injection q)))
              have HBs := hide (hB.out.setCell (p := ⟨g6, j * 3 + 1, none⟩) (by show w.heap.size ≤ g6; omega) (.int .i64 ((L.idxOf num : Nat) : Int)))
              clear hs
              go_roundw
              case rel => exact ⟨j + 1, by go_num, by omega, (unhide HS).alloc _, (unhide HMs).alloc _, (unhide HBs).alloc (by simp; omega) _⟩
              case measure => simp [intOf]; omega
            · have g1 : (k == 1) = false := beq_eq_false_iff_ne.2 hk
              have HST : Hid (accC ts (j + 1) = accC ts j) := by
                show _ = _
                rw [hst]
                unfold canonN
                rw [if_neg hk]
                exact set_same hac
              clear hac hst ht hk
              go_wp2_with fail
              go_roundw
              case rel => exact ⟨j + 1, by go_num, by omega, by rw [HST.out]; exact hO.out.alloc _, hM.out.alloc _, hB.out.alloc hbz _⟩
              case measure => simp [intOf]; omega
          · have hown := hO.out
            rw [accC_all (by omega), ← HCV.out] at hown
            have hcl : ts.length = (canV ts).length := by rw [HCV.out]; simp [canonL]
            have HOW : Hid (wr.ownsRow w.heap.size 33 3 (.slice (some ⟨g6, 0, none⟩) ts.length c6) (canV ts).length ((canV ts).flatMap ndCells)) := by
              show World.ownsRow _ _ _ _ _ _ _
              rw [← hcl]; exact hown
            clear hown hO hcl
            go_wp2_with fail
            go_ret
            exact ⟨_, rfl, unhide HOW, hB.out⟩

end Go.Proofs.YtcnanbmbdajcaaaDoor
