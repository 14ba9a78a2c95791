/- FinsetMapLaws returns true. Conditions: none but that a slice of numbers has a length. -/
import Derived.Test.YtaambeficfiacaaGreatFmQ
import Derived.Test.YtaambeficfiacaaGreatFmC
import Derived.Test.YtaambeficfiacaaGreatFnO
namespace Go.Proofs.YtaambeficfiacaaGreat
open Go Go.RowKit Go.Shelf VM

theorem val_ne {d : Nat} (hd : d ≤ 32) {s : ByteArray} (h : valB d s = true) : s ≠ ⟨#[]⟩ := by
  rintro rfl
  have h2 := (tree_val hd h).2.1
  revert h2
  obtain ⟨_, v, h3, _⟩ := valB_iff.1 h
  have h4 : (bs ⟨#[]⟩).length = 0 := rfl
  rw [h3] at h4
  cases v <;> simp [enc] at h4
theorem nodup_sub {l m : List ByteArray} (hN : l.Nodup) (h : ∀ x ∈ l, x ∈ m) : l.length ≤ m.length := by
  have e : sortM l = (sortM m).filter fun s => hasB s l := asc_unique (sortM_asc _) (filter_asc _ (sortM_asc _)) fun u => by
    rw [List.mem_filter, sortM_mem, sortM_mem, hasB_iff]
    exact ⟨fun q => ⟨h u q, q⟩, fun q => q.2⟩
  rw [← (sortM_nodup (l := l)).2 hN, e]
  exact Nat.le_trans (List.length_filter_le _ _) (sortM_len m)
/-- what the law knows: the map's pairs are the keys whose cell is not empty, with the cell's content -/
def MSt (m : ByteArray) (ws : List ByteArray) : Prop := isK 6 m = true ∧ ws.length = 8 ∧ (∀ s ∈ ws, s ≠ ⟨#[]⟩ → valB 31 s = true ∧ s.size ≤ 9) ∧ ∀ p : ByteArray × ByteArray, p ∈ prs m ↔ ∃ j : Nat, j < 8 ∧ ws[j]? = some p.2 ∧ p.2 ≠ ⟨#[]⟩ ∧ p.1 = intB (j : Int)
theorem int_ok (j : Nat) : valB 31 (intB (j : Int)) = true ∧ (intB (j : Int)).size ≤ 9 := ⟨(val_int (by decide) _).1, by rw [intB_size]; exact Nat.le_refl _⟩
theorem int_eq {i j : Nat} (hi : i < 8) (hj : j < 8) (h : intB (i : Int) = intB (j : Int)) : i = j := by
  have := intB_inj (a := (i : Int)) (b := (j : Int)) (by omega) (by omega) h
  omega
theorem mst_start : MSt (mapM [] []) (List.replicate 8 ⟨#[]⟩) := by
  obtain ⟨_, h2, h3⟩ := made_map (a := []) (b := []) (by simp) rfl (fun s h => by cases h) (fun s h => by cases h) (by simp)
  refine ⟨h2, by simp, fun s hs hne => absurd (List.eq_of_mem_replicate hs) hne, fun p => ?_⟩
  rw [h3]
  constructor
  · intro h; cases h
  · rintro ⟨j, hj, h1, h4, _⟩
    exact absurd (List.eq_of_mem_replicate (List.mem_of_getElem? h1)) h4
/-- one Update more: and the Delete that undoes it -/
theorem mst_upd {m : ByteArray} {ws : List ByteArray} (h : MSt m ws) {j : Nat} (hj : j < 8) {y : ByteArray} (hy : valB 31 y = true ∧ y.size ≤ 9) :
    ∃ n, updM m (intB (j : Int)) y = (n, 0) ∧ MSt n (ws.set j y) ∧ (ws[j]? = some ⟨#[]⟩ → delM n (intB (j : Int)) = (m, 0)) ∧ n.size ≤ 131072 := by
  obtain ⟨h1, h2, h3, h4⟩ := h
  have hyne := val_ne (by decide) hy.1
  have hsm : ∀ p ∈ prs m, (valB 31 p.1 = true ∧ p.1.size ≤ 9) ∧ (valB 31 p.2 = true ∧ p.2.size ≤ 9) := fun p hp => by
    obtain ⟨i, hi, q1, q2, q3⟩ := (h4 p).1 hp
    rw [q3]
    exact ⟨int_ok i, h3 _ (List.mem_of_getElem? q1) q2⟩
  -- at most eight keys
  have hcount : ∀ {x : ByteArray}, isK 6 x = true → (∀ p ∈ prs x, ∃ i : Nat, i < 8 ∧ p.1 = intB (i : Int)) → (mkeys x).length ≤ 8 := fun {x} hx hp => by
    have hN : (mkeys x).Nodup := asc_nodup (pt_map hx).1
    have hsub : ∀ k ∈ mkeys x, k ∈ (List.range 8).map fun i : Nat => intB (i : Int) := fun k hk => by
      obtain ⟨y, hy⟩ := key_prs.1 hk
      obtain ⟨i, hi, e⟩ := hp _ hy
      exact List.mem_map.2 ⟨i, List.mem_range.2 hi, e.symm⟩
    have := nodup_sub hN hsub
    simpa using this
  have hk7 : (delK (mkeys m) (intB (j : Int))).length ≤ 7 := by
    obtain ⟨K, V, q1, _, q3, q4, q5, _, _, _, q9, _⟩ := del_prs (intB (j : Int)) h1
    rw [q1]
    have hsub : ∀ k ∈ intB (j : Int) :: K, k ∈ (List.range 8).map fun i : Nat => intB (i : Int) := fun k hk => by
      rcases List.mem_cons.1 hk with rfl | hk
      · exact List.mem_map.2 ⟨j, List.mem_range.2 hj, rfl⟩
      · obtain ⟨y, hy⟩ := zip_val q3 hk
        obtain ⟨i, hi, _, _, e⟩ := (h4 _).1 ((q9 _).1 hy).1
        exact List.mem_map.2 ⟨i, List.mem_range.2 hi, e.symm⟩
    have := nodup_sub (List.nodup_cons.2 ⟨q5, asc_nodup q4⟩) hsub
    simp at this
    omega
  obtain ⟨n, n1, n2, n3⟩ := upd_small h1 hsm hk7 (int_ok j) hy
  have hst : ∀ p : ByteArray × ByteArray, p ∈ prs n ↔ ∃ i : Nat, i < 8 ∧ (ws.set j y)[i]? = some p.2 ∧ p.2 ≠ ⟨#[]⟩ ∧ p.1 = intB (i : Int) := fun p => by
    rw [n3]
    constructor
    · rintro (⟨q, hne⟩ | rfl)
      · obtain ⟨i, hi, q1, q2, q3⟩ := (h4 p).1 q
        have hij : j ≠ i := fun e => hne (by rw [q3, e])
        exact ⟨i, hi, by rw [List.getElem?_set_ne hij]; exact q1, q2, q3⟩
      · exact ⟨j, hj, by rw [List.getElem?_set_self (by omega)], hyne, rfl⟩
    · rintro ⟨i, hi, q1, q2, q3⟩
      by_cases e : j = i
      · subst e
        rw [List.getElem?_set_self (by omega)] at q1
        exact .inr (Prod.ext q3 (Option.some.inj q1).symm)
      · rw [List.getElem?_set_ne e] at q1
        exact .inl ⟨(h4 p).2 ⟨i, hi, q1, q2, q3⟩, fun q => e (int_eq hj hi (q.symm.trans q3))⟩
  refine ⟨n, n1, ⟨n2, by rw [List.length_set]; exact h2, fun s hs hne => ?_, hst⟩, fun hw => ?_, (tree_val (Nat.le_refl _) (isK_valid n2).1).2.2⟩
  · rcases List.mem_or_eq_of_mem_set hs with q | q
    · exact h3 s q hne
    · rw [q]; exact hy
  · have hk8 : (delK (mkeys n) (intB (j : Int))).length ≤ 4096 := by
      have := hcount n2 fun p hp => by obtain ⟨i, hi, _, _, q⟩ := (hst p).1 hp; exact ⟨i, hi, q⟩
      unfold delK
      split
      · exact Nat.le_trans (List.eraseIdx_sublist _ _).length_le (by omega)
      · omega
    obtain ⟨b, b1, b2, b3⟩ := del_small n2 (valB_le (by decide) (int_ok j).1) hk8
    have e : b = m := map_ext b2 h1 fun p => by
      rw [b3, n3]
      constructor
      · rintro ⟨⟨q, _⟩ | rfl, hne⟩
        · exact q
        · exact absurd rfl hne
      · intro q
        have hne : p.1 ≠ intB (j : Int) := fun q3 => by
          obtain ⟨i, hi, q1, q2, q4⟩ := (h4 p).1 q
          have : i = j := int_eq hi hj (q4.symm.trans q3)
          rw [this, hw] at q1
          exact q2 (Option.some.inj q1).symm
        exact ⟨.inl ⟨q, hne⟩, hne⟩
    rw [b1, e]
theorem mst_yes {m : ByteArray} {ws : List ByteArray} (h : MSt m ws) {j : Nat} (hj : j < 8) {y : ByteArray} (hw : ws[j]? = some y) (hy : y ≠ ⟨#[]⟩) : lookM m (intB (j : Int)) = (y, 0) ∧ hasM m (intB (j : Int)) = (true, 0) :=
  look_yes h.1 (valB_le (by decide) (int_ok j).1) ((h.2.2.2 _).2 ⟨j, hj, hw, hy, rfl⟩)
theorem mst_no {m : ByteArray} {ws : List ByteArray} (h : MSt m ws) {j : Nat} (hj : j < 8) (hw : ws[j]? = some ⟨#[]⟩) : lookM m (intB (j : Int)) = (⟨#[]⟩, 12) ∧ hasM m (intB (j : Int)) = (false, 0) :=
  look_no h.1 (valB_le (by decide) (int_ok j).1) fun y hy => by
    obtain ⟨i, hi, q1, q2, q3⟩ := (h.2.2.2 _).1 hy
    have : j = i := int_eq hj hi q3
    rw [← this, hw] at q1
    exact q2 (Option.some.inj q1).symm

end Go.Proofs.YtaambeficfiacaaGreat
