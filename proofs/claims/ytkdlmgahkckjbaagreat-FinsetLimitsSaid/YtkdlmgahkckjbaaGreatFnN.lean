/- Small sets of small integers: what the statements' Ints makes, and what it is. Conditions: a slice of numbers has a length. -/
import Derived.Test.YtkdlmgahkckjbaaGreatFnK
import Derived.Test.YtkdlmgahkckjbaaGreatVgC
namespace Go.Proofs.YtkdlmgahkckjbaaGreat
open Go.RowKit VM

def six : List ByteArray := (List.range 6).map fun i : Nat => intB (i : Int)
def SmallL (l : List ByteArray) : Prop := ∀ s ∈ l, s ∈ six
theorem six_val : ∀ s ∈ six, valB 1 s = true ∧ s.size = 9 := fun s hs => by
  unfold six at hs
  obtain ⟨i, _, rfl⟩ := List.mem_map.1 hs
  exact ⟨(val_int (Nat.le_refl 1) _).1, intB_size _⟩
theorem int_six {z : Int} (h0 : 0 ≤ z) (h1 : z < 6) : intB z ∈ six := List.mem_map.2 ⟨z.toNat, List.mem_range.2 (by omega), by rw [show ((z.toNat : Nat) : Int) = z by omega]⟩
theorem small_len {l : List ByteArray} (h : SmallL l) : (sortM l).length ≤ 6 := by
  have e : sortM l = (sortM six).filter fun s => hasB s l := asc_unique (sortM_asc _) (filter_asc _ (sortM_asc _)) fun u => by
    rw [List.mem_filter, sortM_mem, sortM_mem, hasB_iff]
    exact ⟨fun q => ⟨h u q, q⟩, fun q => q.2⟩
  rw [e]
  exact Nat.le_trans (List.length_filter_le _ _) (Nat.le_trans (sortM_len six) (by unfold six; simp))
theorem small_tot {l : List ByteArray} (h : SmallL l) : totB (sortM l) ≤ 54 := by
  have h1 := small_len h
  have h2 := totB_bound (N := 9) (l := sortM l) fun s hs => Nat.le_of_eq (six_val s (h s (sortM_mem.1 hs))).2
  omega
theorem small_ok {l : List ByteArray} (h : SmallL l) : valB 2 (setM l) = true ∧ setM l ≠ ⟨#[]⟩ := setM_ok (d := 1) (by decide) (fun s hs => (six_val s (h s hs)).1) (by have := small_tot h; omega)
theorem small_set {l : List ByteArray} (h : SmallL l) : isK 5 (setM l) = true ∧ pt (setM l) = sortM l := ⟨(made_set (small_ok h).2).1, (made_set (small_ok h).2).2.1⟩
theorem small_bnd {l : List ByteArray} (h : SmallL l) : bnd l = (setM l, 0) := by
  unfold bnd
  rw [if_neg]
  rintro (q | q)
  · have := small_len h; omega
  · exact (small_ok h).2 q
theorem small_size {l : List ByteArray} (_ : SmallL l) : (setM l).size ≤ 281474976710656 := by have := setM_size l; omega
theorem small_sort {l : List ByteArray} (h : SmallL l) : SmallL (sortM l) := fun s hs => h s (sortM_mem.1 hs)
theorem small_mrg {a b : List ByteArray} (K : Bool → Bool → Bool) (ha : SmallL a) (hb : SmallL b) : SmallL (mrg K a b) := fun s hs => (mrg_mem.1 hs).1.elim (ha s) (hb s)
theorem small_nil : SmallL [] := fun s h => by cases h
/-- union, intersection, difference of small sets -/
theorem small_comb {a b : List ByteArray} (K : Bool → Bool → Bool) (ha : SmallL a) (hb : SmallL b) : combM K (setM a) (setM b) = (setM (mrg K (sortM a) (sortM b)), 0) := by
  unfold combM
  rw [if_pos ⟨(small_set ha).1, (small_set hb).1⟩, (small_set ha).2, (small_set hb).2]
  exact small_bnd (small_mrg K (small_sort ha) (small_sort hb))
theorem setM_eq {l m : List ByteArray} (h : ∀ u, u ∈ l ↔ u ∈ m) : setM l = setM m := setM_congr (sortM_congr h)
/-- what Ints leaves -/
def IntsPost (w : World) (g : Nat) (A : Option Addr) (n c : Nat) (e : Ending) (w' : World) : Prop :=
  ∃ l, e = .returned (.string (setM l)) ∧ SmallL l ∧ l.length ≤ 4 ∧ CSt w' g A n c ∧ w.grownBy w' (some g)
set_option linter.unusedSimpArgs false in
set_option maxRecDepth 100000 in
set_option maxHeartbeats 6400000 in
theorem ints_st (w : World) (g : Nat) (A : Option Addr) (n c : Nat) (hC : CSt w g A n c) (hn : n ≤ maxLen) :
    Calls Tryz.prog 7 #[.pointer (some ⟨g, 0, none⟩)] w (IntsPost w g A n c) := by
  have HC := hide hC
  have HN := Lib.hid hn
  have hgl := hC.lt
  obtain ⟨i0, hi0, hiz0, hiz1, hiz2⟩ := info_parts val_info
  have HRI := Lib.hid (fun z w => rint_any z w)
  clear hC hn
  go_enter Tryz.func7, Tryz.ntmps7
  go_wp2_with fail
  refine (next_st 5 5 rfl (by decide) (by decide) (unhide HC) HN.out).mono ?_
  rintro e w1 ⟨R, hR, rfl, hC1, hG1⟩
  have HC1 := hide hC1
  have HG1 := hide hG1
  clear hC1 hG1 HC
  go_wp2_with fail
  go_loopw [3, 4] (fun lv nv wr => ∃ (r L : Nat) (l : List ByteArray), nv = .int .i64 r ∧ r + L = R ∧ Hid (L = l.length) ∧ Hid (SmallL l) ∧ Hid (wr.ownsRow w.heap.size 27 1 lv L (l.map Value.string)) ∧ Hid (CSt wr g A n c) ∧ Hid (w.grownBy wr (some g))) (fun _ nv _ => (intOf nv).toNat)
  case atStart => exact ⟨R, 0, [], rfl, by omega, rfl, small_nil, World.ownsRow_nil _ _ _ _, unhide HC1, unhide HG1⟩
  case round =>
    obtain ⟨r, L, l, rfl, hrL, hL, hV, hO, hC, hG⟩ := hrel
    obtain ⟨A3, c3, rfl⟩ := owns_form hO.out
    by_cases hr0 : 0 < r
    · go_wp2_with fail
      refine (next_st 6 6 rfl (by decide) (by decide) hC.out HN.out).mono ?_
      rintro e w2 ⟨x, hx, rfl, hC2, hG2⟩
      have HC2 := hide hC2
      have HO2 := hide (owns_other hO.out hG2 (row_g hO.out hgl))
      have HG2 := hide (only_trans hG.out hG2)
      clear hC2 hG2 hO hC hG
      go_wp2_with fail
      refine (HRI.out (x : Int) _).mono ?_
      rintro e w3 ⟨rfl, hb3⟩
      have HS3 : Hid (intB (x : Int) ∈ six) := Lib.hid (int_six (by omega) (by omega))
      have HC3 := hide ((unhide HC2).below hb3)
      have HO3 := hide (owns_below (unhide HO2) hb3)
      have HG3 := hide (only_trans (unhide HG2) (only_below hb3 (some g)))
      clear hb3
      generalize intB (x : Int) = s at *
      have HO4 := hide ((unhide HO3).alloc (.cells #[.string s] 27))
      have hsz := (unhide HG3).size
      go_wp2_with (at_builtin; refine wpList_app _ rfl _ _ 22 rfl w.heap.size 27 i0 _ 1 16 Tryz.underlying22 hi0 hiz0 hiz1 hiz2 rfl (by decide) _ L (l.map Value.string) rfl (unhide HO4) (some ⟨w3.heap.size, 0, none⟩) 1 1 [.string s] rfl rfl (new_in w3 27 #[.string s]) (one_str s) (by unfold maxLen; omega) (by omega) (by simp; omega) ?_; intro v5 w5 hown5 hgrow5 _)
      have hall := grow_all (unhide HC3) (unhide HG3) hgl s (unhide HO3) hgrow5
      have HC5 := hide hall.1
      have HG5 := hide hall.2
      have HO5 : Hid (w5.ownsRow w.heap.size 27 1 v5 (L + 1) ((l ++ [s]).map Value.string)) := hide (by rw [List.map_append]; exact hown5)
      have HV5 : Hid (SmallL (l ++ [s])) := Lib.hid (fun x hx => by
        rcases List.mem_append.1 hx with hx | hx
        · exact hV.out x hx
        · rw [List.mem_singleton.1 hx]; exact HS3.out)
      clear hall hown5 hgrow5
      obtain ⟨q, rfl⟩ : ∃ q, r = q + 1 := ⟨r - 1, by omega⟩
      have hw2 : ((q : Int) + 1 - 1) = q := by omega
      go_wp2_with fail
      go_roundw
      case rel => exact ⟨q, L + 1, l ++ [s], by go_num, by omega, by rw [List.length_append, ← hL.out]; rfl, HV5.out, unhide HO5, unhide HC5, unhide HG5⟩
      case measure => simp [intOf]
    · have hl4 : L ≤ 4 := by omega
      have HS := hide (rset_any l A3 L c3 wr hL.out (by omega) (fun s hs => by have := (six_val s (hV.out s hs)).2; omega) (InC.own hO.out))
      change Hid (Calls _ _ _ _ fun e w' => e = .returned (.string (setM l)) ∧ _) at HS
      have HLL : Hid (l.length ≤ 4) := Lib.hid (by rw [← hL.out]; exact hl4)
      clear hO
      generalize wr = w4 at *
      go_wp2_with fail
      refine (unhide HS).mono ?_
      rintro e w5 ⟨rfl, hb5⟩
      have HC5 := hide (hC.out.below hb5)
      have HG5 := hide (only_trans hG.out (only_below hb5 (some g)))
      clear hb5 hC hG
      go_wp2_with fail
      go_ret
      exact ⟨l, rfl, hV.out, HLL.out, unhide HC5, unhide HG5⟩

end Go.Proofs.YtkdlmgahkckjbaaGreat
