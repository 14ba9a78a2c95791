/- HeapLinks: the law. Conditions: its argument is a byte. -/
import Derived.Test.YtcdapnhcgbkikaaHpJ
namespace Go.Proofs.Ytcdapnhcgbkikaa
open Go.RowKit

/-- k cells, the first j of them links to the next -/
def linkC (j i : Nat) : Cel := if i < j then (3, (i : Int), [((i + 1 : Nat) : Int)]) else (2, (i : Int), [])
def linkM (k j : Nat) : List Cel := (List.range k).map (linkC j)
def linkF (j : Nat) : Nat → Nat := fun i => if i < j then j else i
theorem linkM_len (k j : Nat) : (linkM k j).length = k := by unfold linkM; simp
theorem linkM_at {k j i : Nat} (h : i < k) : (linkM k j)[i]? = some (linkC j i) := by unfold linkM; rw [List.getElem?_map, List.getElem?_range h]; rfl
theorem linkM_cell {k j i : Nat} (h : i < k) : cellM (linkM k j) i = linkC j i := by unfold cellM; rw [linkM_at h]; rfl
theorem linkF_zero : linkF 0 = id := by funext i; unfold linkF; rw [if_neg (Nat.not_lt_zero i)]; rfl
theorem has_in {n i : Nat} (h : i < n) : hasB n (i : Int) = true := by unfold hasB; rw [decide_eq_true (by omega), decide_eq_true (by omega)]; rfl
theorem has_out {n : Nat} {i : Int} (h : (n : Int) ≤ i) : hasB n i = false := by unfold hasB; rw [decide_eq_false (show ¬ i < (n : Int) by omega), Bool.and_false]
theorem link_alloc {i : Nat} (h : i < 100) : allocM 100 (linkM i 0) (1, (i : Int), []) = ((i : Int), 0, linkM i 0 ++ [(1, (i : Int), [])]) := by
  unfold allocM
  rw [linkM_len, if_pos (by rfl), if_neg (by omega)]
theorem set_last {α : Type} (l : List α) (x y : α) : (l ++ [x]).set l.length y = l ++ [y] := by
  rw [List.set_append_right _ _ (Nat.le_refl _), Nat.sub_self]; rfl
theorem link_enter {i : Nat} : enterM (linkM i 0 ++ [(1, (i : Int), [])]) id (i : Int) = ((1, (i : Int), []), 0, linkM (i + 1) 0) := by
  have hc : cellM (linkM i 0 ++ [(1, (i : Int), [])]) i = (1, (i : Int), []) := by
    unfold cellM
    rw [List.getElem?_append_right (by rw [linkM_len]; exact Nat.le_refl _), linkM_len, Nat.sub_self]; rfl
  unfold enterM
  rw [has_in (by rw [List.length_append, linkM_len]; simp), if_pos rfl]
  simp only [Int.toNat_natCast, id, hc, if_true]
  have hs := set_last (linkM i 0) (1, (i : Int), []) (2, (i : Int), [])
  rw [linkM_len] at hs
  rw [hs]
  have : linkM (i + 1) 0 = linkM i 0 ++ [linkC 0 i] := by unfold linkM; rw [List.range_succ, List.map_append]; rfl
  rw [this]
  rfl
theorem link_update {k j : Nat} (h : j + 1 < k) : updateM (linkM k j) (linkF j) (j : Int) ((j + 1 : Nat) : Int) = (0, linkM k (j + 1), linkF (j + 1)) := by
  unfold updateM
  rw [linkM_len, has_in (by omega), has_in (by omega)]
  simp only [Int.toNat_natCast, Bool.and_self, if_true]
  rw [linkM_cell (by omega)]
  have hc : linkC j j = (2, (j : Int), []) := by unfold linkC; rw [if_neg (Nat.lt_irrefl j)]
  rw [hc, if_pos rfl]
  have hf : linkF j (j + 1) = j + 1 := by unfold linkF; rw [if_neg (by omega)]
  rw [hf, if_neg (by omega)]
  have e1 : (linkM k j).set j (3, (j : Int), [((j + 1 : Nat) : Int)]) = linkM k (j + 1) := by
    apply List.ext_getElem?
    intro i
    by_cases hi : i < k
    · by_cases hj : j = i
      · subst hj
        rw [List.getElem?_set_self (by rw [linkM_len]; exact hi), linkM_at hi]
        unfold linkC; rw [if_pos (by omega)]
      · rw [List.getElem?_set_ne hj, linkM_at hi, linkM_at hi]
        unfold linkC
        by_cases h1 : i < j
        · rw [if_pos h1, if_pos (by omega)]
        · rw [if_neg h1, if_neg (by omega)]
    · rw [List.getElem?_eq_none (by rw [List.length_set, linkM_len]; omega), List.getElem?_eq_none (by rw [linkM_len]; omega)]
  have e2 : updF (linkF j) j (j + 1) = linkF (j + 1) := by
    funext i
    unfold updF linkF
    by_cases h1 : i < j
    · rw [if_pos h1, if_pos rfl, if_neg (by omega), if_pos (by omega)]
    · by_cases h2 : i = j
      · subst h2; rw [if_neg h1, if_pos rfl, if_neg (by omega), if_pos (by omega)]
      · rw [if_neg h1, if_neg h2, if_neg (by omega)]
  simp only [e1, e2]
theorem link_wf {k j : Nat} (h : j < k) : WF (linkM k j) := by
  refine ⟨fun i c hc => ?_, fun i c r hc hr => ?_⟩
  · have hi : i < k := by have := (List.getElem?_eq_some_iff.1 hc).1; rwa [linkM_len] at this
    rw [linkM_at hi] at hc
    injection hc with hc
    subst hc
    unfold linkC
    split <;> simp
  · have hi : i < k := by have := (List.getElem?_eq_some_iff.1 hc).1; rwa [linkM_len] at this
    rw [linkM_at hi] at hc
    injection hc with hc
    subst hc
    rw [linkM_len]
    unfold linkC at hr
    split at hr
    · simp at hr; omega
    · simp at hr
theorem link_read {k i : Nat} (h : i < k) : readM (linkM k (k - 1)) (linkF (k - 1)) (i : Int) = ((2, ((k - 1 : Nat) : Int), []), ((k - 1 : Nat) : Int), 0) := by
  have hf : linkF (k - 1) i = k - 1 := by
    unfold linkF
    split
    · rfl
    · omega
  unfold readM
  rw [linkM_len, has_in h, if_pos rfl, Int.toNat_natCast, hf, linkM_cell (by omega)]
  unfold linkC
  rw [if_neg (Nat.lt_irrefl _)]
theorem link_loop {k i : Nat} (h : i < k) : updateM (linkM k (k - 1)) (linkF (k - 1)) ((k - 1 : Nat) : Int) (i : Int) = (14, linkM k (k - 1), linkF (k - 1)) := by
  have hf : linkF (k - 1) i = k - 1 := by
    unfold linkF
    split
    · rfl
    · omega
  unfold updateM
  rw [linkM_len, has_in (by omega), has_in h]
  simp only [Int.toNat_natCast, Bool.and_self, if_true]
  rw [linkM_cell (by omega)]
  have hc : linkC (k - 1) (k - 1) = (2, ((k - 1 : Nat) : Int), []) := by unfold linkC; rw [if_neg (Nat.lt_irrefl _)]
  rw [hc, if_pos rfl, hf, if_pos rfl]
set_option linter.unusedSimpArgs false in
set_option maxRecDepth 100000 in
set_option maxHeartbeats 6400000 in
theorem heapLinks_core (z : Int) (hz0 : 0 ≤ z) (hz1 : z ≤ 255) (a k : Nat) (ha : z % 40 = (a : Int)) (hk : k = 2 + a) (_ : a < 40) (w : World) :
    Calls Try.prog 5 #[.int .u8 z] w fun e w' => e = .returned (.bool true) ∧ Below w.heap.size w w' := by
  have hk2 : (2 : Int) + (a : Int) = (k : Int) := by omega
  have hkb : k ≤ 41 := by omega
  have hkc : 2 ≤ k := by omega
  clear hk
  obtain ⟨g, hg⟩ : ∃ g, Hid (g = w.heap.size) := ⟨_, Lib.hid rfl⟩
  go_enter Try.func5, Try.ntmps5
  go_wp2_with fail
  refine (new_ok (most := 100) (by decide) w).mono ?_
  rintro e w1 ⟨rfl, h1⟩
  rw [← hg.out] at h1
  rw [← hg.out]
  have H1 := hide h1
  clear h1
  go_wp2_with fail
  refine (awake_any w1).mono ?_
  rintro e w2 ⟨rfl, hb2⟩
  have H2 := hide ((unhide H1).to hb2)
  clear hb2 H1
  go_wp2_with fail
  try rw [ha]
  go_loopw [6] (fun iv wr => ∃ i : Nat, iv = .int .i64 i ∧ i ≤ k ∧ Hid (LE w wr (fun k => k < g) g 100 (linkM i 0) id)) (fun iv _ => k - (intOf iv).toNat)
  case atStart => exact ⟨0, rfl, by omega, H2⟩
  case round =>
    obtain ⟨i, rfl, hik, H⟩ := hrel
    by_cases hlt : i < k
    · go_wp2_with fail
      refine (H.out.alloc0 (by rw [linkM_len]; omega) 1 (i : Int)).mono ?_
      rintro e w3 ⟨he, h3, -⟩
      rw [link_alloc (by omega)] at he h3
      subst he
      have H3 := hide h3
      clear h3
      go_wp2_with fail
      refine ((unhide H3).enter (i : Int)).mono ?_
      rintro e w4 ⟨⟨A4, n4, c4, he⟩, h4, -⟩
      rw [link_enter] at he h4
      subst he
      have H4 := hide h4
      clear h4
      go_wp2_with fail
      go_roundw
      case rel => exact ⟨i + 1, by go_num, by omega, Lib.hid (unhide H4)⟩
      case measure => simp [intOf]; omega
    · obtain rfl : i = k := by omega
      have H5 : Hid (LE w wr (fun k => k < g) g 100 (linkM i 0) (linkF 0)) := Lib.hid (by rw [linkF_zero]; exact H.out)
      clear H
      go_wp2_with fail
      go_loopw [7] (fun iv wr => ∃ j : Nat, iv = .int .i64 j ∧ j + 1 ≤ i ∧ Hid (LE w wr (fun k => k < g) g 100 (linkM i j) (linkF j))) (fun iv _ => i - (intOf iv).toNat)
      case atStart => exact ⟨0, rfl, by omega, H5⟩
      case round =>
        obtain ⟨j, rfl, hjk, H⟩ := hrel
        by_cases hlt2 : j + 1 < i
        · obtain ⟨j1, hj1⟩ : ∃ j1, Hid (j1 = j + 1) := ⟨_, Lib.hid rfl⟩
          have gd : decide ((j : Int) + 1 < (i : Int)) = true := decide_eq_true (by omega)
          have HL := Lib.hid (link_update hlt2)
          rw [← hj1.out] at HL
          have gj : ((j : Int) + 1) = (j1 : Int) := by have := hj1.out; omega
          go_wp2_with fail
          refine (H.out.update (j : Int) (j1 : Int)).mono ?_
          rintro e w3 ⟨he, h3, -⟩
          rw [HL.out] at he h3
          subst he
          have H3 := hide h3
          clear h3
          go_wp2_with fail
          go_roundw
          case rel => exact ⟨j1, rfl, by omega, Lib.hid (unhide H3)⟩
          case measure => simp [intOf]; omega
        · have hj2 : j = i - 1 := by omega
          have H6 : Hid (LE w wr (fun k => k < g) g 100 (linkM i (i - 1)) (linkF (i - 1))) := Lib.hid (by rw [← hj2]; exact H.out)
          obtain ⟨j1, hj1⟩ : ∃ j1, Hid (j1 = j + 1) := ⟨_, Lib.hid rfl⟩
          have gd : decide ((j : Int) + 1 < (i : Int)) = false := decide_eq_false (by omega)
          have gi : IntKind.i64.wrap ((i : Int) - 1) = (j : Int) := by rw [IntWalk.i64_in _ (by omega)]; omega
          have gi2 : ((i : Int) - 1) = (j : Int) := by omega
          have HJ2 := Lib.hid hj2
          clear H hj2
          go_wp2_with fail
          have HRd : Hid (∀ q : Nat, q < i → readM (linkM i (i - 1)) (linkF (i - 1)) (q : Int) = ((2, (j : Int), []), (j : Int), 0)) := Lib.hid (fun q hq => by rw [link_read hq, ← HJ2.out])
          have HLp : Hid (∀ q : Nat, q < i → updateM (linkM i (i - 1)) (linkF (i - 1)) (j : Int) (q : Int) = (14, linkM i (i - 1), linkF (i - 1))) := Lib.hid (fun q hq => by have := link_loop hq; rwa [← HJ2.out] at this ⊢)
          go_loopw [8] (fun iv wr => ∃ q : Nat, iv = .int .i64 q ∧ q ≤ i ∧ Hid (LE w wr (fun k => k < g) g 100 (linkM i (i - 1)) (linkF (i - 1)))) (fun iv _ => i - (intOf iv).toNat)
          case atStart => exact ⟨0, rfl, by omega, H6⟩
          case round =>
            obtain ⟨q, rfl, hqi, H⟩ := hrel
            by_cases hlt3 : q < i
            · have HR1 := Lib.hid (HRd.out q hlt3)
              have HL1 := Lib.hid (HLp.out q hlt3)
              go_wp2_with fail
              refine (H.out.read (link_wf (by omega)) (q : Int)).mono ?_
              rintro e w3 ⟨A3, c3, he, -, h3, -⟩
              rw [HR1.out] at he
              subst he
              have H3 := hide ((h3.mono (P' := fun k => k < g) (fun k q => .inl q)).to ((Below.refl _ _).alloc (Nat.le_refl _) (.cells #[.int .i64 2, .int .i64 (j : Int), .slice A3 0 c3] 43)))
              clear h3
              simp only [List.length_nil]
              go_wp2_with fail
              refine ((unhide H3).update (j : Int) (q : Int)).mono ?_
              rintro e w4 ⟨he, h4, -⟩
              rw [HL1.out] at he h4
              subst he
              have H4 := hide h4
              clear h4
              go_wp2_with fail
              go_roundw
              case rel => exact ⟨q + 1, by go_num, by omega, Lib.hid (unhide H4)⟩
              case measure => simp [intOf]; omega
            · go_wp2_with fail
              go_ret
              exact ⟨rfl, H.out.below⟩
theorem heapLinks_any (z : Int) (hz0 : 0 ≤ z) (hz1 : z ≤ 255) (w : World) : Calls Try.prog 5 #[.int .u8 z] w fun e w' => e = .returned (.bool true) ∧ Below w.heap.size w w' :=
  heapLinks_core z hz0 hz1 (z % 40).toNat _ (by omega) rfl (by omega) w
end Go.Proofs.Ytcdapnhcgbkikaa
