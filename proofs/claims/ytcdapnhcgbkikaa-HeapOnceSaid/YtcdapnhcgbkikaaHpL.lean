/- HeapOnce: the law. Conditions: its first argument is a byte, the second a slice of bytes. -/
import Derived.Test.YtcdapnhcgbkikaaHpK
namespace Go.Proofs.Ytcdapnhcgbkikaa
open Go.RowKit

/-- the bytes of a slice that came in -/
def InBy (w : World) (A : Option Addr) (n : Nat) : Prop := n = 0 ∨ ∃ (b off : Nat), A = some ⟨b, off, none⟩ ∧ b < w.heap.size ∧ ∀ k, k < n → ∃ z : Nat, z < 256 ∧ w.cell? ⟨b, off + k, none⟩ = some (.int .u8 (z : Int))
def onceC (k i s : Nat) : Cel := if s = 0 then (1, (i : Int), []) else if s = 1 then (2, (i : Int), []) else (3, (i : Int), [(k : Int)])
def onceM (k : Nat) (s : Nat → Nat) : List Cel := (List.range k).map (fun i => onceC k i (s i)) ++ [(4, 99, [])]
def onceF (k : Nat) (s : Nat → Nat) : Nat → Nat := fun i => if i < k ∧ s i = 2 then k else i
def upS (s : Nat → Nat) (r v : Nat) : Nat → Nat := fun i => if i = r then v else s i
def thunkM (i : Nat) : List Cel := (List.range i).map (fun (j : Nat) => (1, (j : Int), []))
theorem thunkM_len (i : Nat) : (thunkM i).length = i := by unfold thunkM; simp
theorem thunkM_alloc {i : Nat} (h : i < 100) : allocM 100 (thunkM i) (1, (i : Int), []) = ((i : Int), 0, thunkM (i + 1)) := by
  unfold allocM
  rw [thunkM_len, if_pos (by rfl), if_neg (by omega)]
  have : thunkM (i + 1) = thunkM i ++ [(1, (i : Int), [])] := by unfold thunkM; rw [List.range_succ, List.map_append]; rfl
  rw [this]
theorem onceM_start {k : Nat} (h : k < 100) : allocM 100 (thunkM k) (4, 99, []) = ((k : Int), 0, onceM k (fun _ => 0)) := by
  unfold allocM
  rw [thunkM_len, if_pos (by rfl), if_neg (by omega)]
  rfl
theorem onceF_start (k : Nat) : onceF k (fun _ => 0) = id := by
  funext i
  unfold onceF
  rw [if_neg (by simp)]
  rfl
theorem onceM_len (k : Nat) (s : Nat → Nat) : (onceM k s).length = k + 1 := by unfold onceM; simp
theorem onceM_at {k i : Nat} (s : Nat → Nat) (h : i < k) : (onceM k s)[i]? = some (onceC k i (s i)) := by
  unfold onceM
  rw [List.getElem?_append_left (by simpa using h), List.getElem?_map, List.getElem?_range h]; rfl
theorem onceM_last (k : Nat) (s : Nat → Nat) : (onceM k s)[k]? = some (4, 99, []) := by
  unfold onceM
  rw [List.getElem?_append_right (by simp), List.length_map, List.length_range, Nat.sub_self]; rfl
theorem onceM_cell {k i : Nat} (s : Nat → Nat) (h : i < k) : cellM (onceM k s) i = onceC k i (s i) := by unfold cellM; rw [onceM_at s h]; rfl
theorem onceM_set {k r : Nat} (s : Nat → Nat) (v : Nat) (h : r < k) : (onceM k s).set r (onceC k r v) = onceM k (upS s r v) := by
  apply List.ext_getElem?
  intro i
  by_cases hi : r = i
  · subst hi
    rw [List.getElem?_set_self (by rw [onceM_len]; omega), onceM_at _ h]
    unfold upS; rw [if_pos rfl]
  · rw [List.getElem?_set_ne hi]
    by_cases hk : i < k
    · rw [onceM_at _ hk, onceM_at _ hk]
      unfold upS; rw [if_neg (fun e => hi e.symm)]
    · by_cases hk2 : i = k
      · subst hk2; rw [onceM_last, onceM_last]
      · rw [List.getElem?_eq_none (by rw [onceM_len]; omega), List.getElem?_eq_none (by rw [onceM_len]; omega)]
theorem once_enter0 {k r : Nat} {s : Nat → Nat} (h : r < k) (hs : s r = 0) : enterM (onceM k s) (onceF k s) (r : Int) = ((1, (r : Int), []), 0, onceM k (upS s r 1)) ∧ onceF k s = onceF k (upS s r 1) := by
  have hf : onceF k s r = r := by unfold onceF; rw [if_neg (by omega)]
  have hc : cellM (onceM k s) r = (1, (r : Int), []) := by rw [onceM_cell s h]; unfold onceC; rw [if_pos hs]
  refine ⟨?_, ?_⟩
  · unfold enterM
    rw [onceM_len, has_in (by omega), if_pos rfl]
    simp only [Int.toNat_natCast, hf, hc, if_true]
    rw [← onceM_set s 1 h]
    rfl
  · funext i
    unfold onceF upS
    by_cases hi : i = r
    · subst hi; rw [if_neg (by omega), if_neg (by simp)]
    · simp [hi]
theorem once_enter1 {k r : Nat} {s : Nat → Nat} (h : r < k) (hs : s r = 1) : enterM (onceM k s) (onceF k s) (r : Int) = ((0, 0, []), 14, onceM k s) := by
  have hf : onceF k s r = r := by unfold onceF; rw [if_neg (by omega)]
  have hc : cellM (onceM k s) r = (2, (r : Int), []) := by rw [onceM_cell s h]; unfold onceC; rw [if_neg (by omega), if_pos hs]
  unfold enterM
  rw [onceM_len, has_in (by omega), if_pos rfl]
  simp only [Int.toNat_natCast, hf, hc]
  rfl
theorem once_enter2 {k r : Nat} {s : Nat → Nat} (h : r < k) (hs : s r = 2) : enterM (onceM k s) (onceF k s) (r : Int) = ((0, 0, []), 20, onceM k s) := by
  have hf : onceF k s r = k := by unfold onceF; rw [if_pos ⟨h, hs⟩]
  have hc : cellM (onceM k s) k = (4, 99, []) := by unfold cellM; rw [onceM_last]; rfl
  unfold enterM
  rw [onceM_len, has_in (by omega), if_pos rfl]
  simp only [Int.toNat_natCast, hf, hc]
  rfl
theorem once_update {k r : Nat} {s : Nat → Nat} (h : r < k) (hs : s r = 1) : updateM (onceM k s) (onceF k s) (r : Int) (k : Int) = (0, onceM k (upS s r 2), onceF k (upS s r 2)) := by
  have hf : onceF k s k = k := by unfold onceF; rw [if_neg (by omega)]
  have hc : cellM (onceM k s) r = (2, (r : Int), []) := by rw [onceM_cell s h]; unfold onceC; rw [if_neg (by omega), if_pos hs]
  unfold updateM
  rw [onceM_len, has_in (by omega), has_in (by omega)]
  simp only [Int.toNat_natCast, hf, hc, Bool.and_self, if_true]
  rw [if_neg (by omega)]
  have e1 := onceM_set s 2 h
  have e2 : updF (onceF k s) r k = onceF k (upS s r 2) := by
    funext i
    unfold updF
    rw [hf]
    unfold onceF upS
    by_cases hi : i = r
    · subst hi
      rw [if_neg (show ¬ (i < k ∧ s i = 2) by omega), if_pos rfl, if_pos ⟨h, by simp⟩]
    · by_cases hq : i < k ∧ s i = 2
      · rw [if_pos hq, if_neg (by omega), if_pos ⟨hq.1, by simp [hi, hq.2]⟩]
      · rw [if_neg hq, if_neg hi, if_neg (by simp only [hi, if_false]; exact hq)]
  rw [e2, ← e1]
  rfl
/-- the states, as they lie in memory -/
def stA (k : Nat) (s : Nat → Nat) : Array Value := ((List.range k).map (fun i => Value.int .i64 (s i : Int))).toArray
theorem stA_at {k i : Nat} (s : Nat → Nat) (h : i < k) : (stA k s)[i]? = some (.int .i64 (s i : Int)) := by
  unfold stA
  rw [List.getElem?_toArray, List.getElem?_map, List.getElem?_range h]; rfl
theorem stA_set {k r : Nat} (s : Nat → Nat) (v : Nat) : (stA k s).setIfInBounds r (.int .i64 (v : Int)) = stA k (upS s r v) := by
  apply Array.ext_getElem?
  intro i
  rw [Array.getElem?_setIfInBounds]
  have hsz : (stA k s).size = k := by unfold stA; simp
  by_cases hi : i < k
  · by_cases hr : r = i
    · subst hr
      rw [if_pos rfl, if_pos (by rw [hsz]; exact hi), stA_at _ hi]
      unfold upS; rw [if_pos rfl]
    · rw [if_neg hr, stA_at _ hi, stA_at _ hi]
      unfold upS; rw [if_neg (fun e => hr e.symm)]
  · have hn : ∀ s, (stA k s)[i]? = none := fun s => Array.getElem?_eq_none (by unfold stA; simp; omega)
    rw [hn, hn]
    by_cases hr : r = i
    · rw [if_pos hr, if_neg (by rw [hsz]; omega)]
    · rw [if_neg hr]
theorem stA_made (k : Nat) : madeCells (Value.int IntKind.i64 0).cells (k * 1) = stA k (fun _ => 0) := by
  rw [Nat.mul_one]
  apply Array.ext_getElem?
  intro i
  by_cases hi : i < k
  · rw [stA_at _ hi]
    simp [madeCells, Value.cells, hi, Nat.mod_one]
  · have hn : (stA k (fun _ => 0))[i]? = none := Array.getElem?_eq_none (by unfold stA; simp; omega)
    rw [hn]
    exact Array.getElem?_eq_none (by simp [madeCells, Value.cells]; omega)
set_option linter.unusedSimpArgs false in
set_option maxRecDepth 100000 in
set_option maxHeartbeats 6400000 in
theorem heapOnce_core (z : Int) (hz0 : 0 ≤ z) (hz1 : z ≤ 255) (a k : Nat) (ha : z % 20 = (a : Int)) (hk : k = 1 + a) (_ : a < 20) (A1 : Option Addr) (n1 c1 : Nat) (_h1 : n1 ≤ maxLen) (w : World) (hB : InBy w A1 n1) :
    Calls Try.prog 4 #[.int .u8 z, .slice A1 n1 c1] w fun e w' => e = .returned (.bool true) ∧ Below w.heap.size w w' := by
  have hk2 : (1 : Int) + (a : Int) = (k : Int) := by omega
  have hkb : k ≤ 20 := by omega
  have hkc : 1 ≤ k := by omega
  clear hk
  have HB := hide hB
  clear hB
  unfold maxLen at _h1
  obtain ⟨g, hg⟩ : ∃ g, Hid (g = w.heap.size) := ⟨_, Lib.hid rfl⟩
  obtain ⟨i0, hi0, hiz0, hiz1, hiz2⟩ := info_parts int_infos
  have HMK : Hid (∀ w : World, (Instr.makeSlice 41 (.int .i64 (k : Int)) (.int .i64 (k : Int))).run Try.prog w = .ok (.slice (some ⟨w.heap.size, 0, none⟩) k k) (w.alloc (.cells (stA k (fun _ => 0)) 3))) := Lib.hid (fun w => by
    have hr := run_make (P := Try.prog) w 41 3 i0 (.int .i64 0) Try.underlying41 hi0 hiz0 .i64 .i64 k k (by omega) (Int.le_refl _) (by rw [hiz2]; omega) (by omega)
    simp only [Int.toNat_natCast] at hr
    rw [hr, hiz1, stA_made])
  go_enter Try.func4, Try.ntmps4
  go_wp2_with fail
  refine (new_ok (most := 100) (by decide) w).mono ?_
  rintro e w1 ⟨rfl, h1⟩
  rw [← hg.out] at h1
  rw [← hg.out]
  have H1 := hide h1
  clear h1
  go_wp2_with fail
  refine (awake_any w1).mono ?_
  rintro e w2 ⟨rfl, hb2⟩
  have H2 := hide ((unhide H1).to hb2)
  clear hb2 H1
  go_wp2_with fail
  try rw [ha]
  go_loopw [8] (fun iv wr => ∃ i : Nat, iv = .int .i64 i ∧ i ≤ k ∧ Hid (LE w wr (fun k => k < g) g 100 (thunkM i) id)) (fun iv _ => k - (intOf iv).toNat)
  case atStart => exact ⟨0, rfl, by omega, H2⟩
  case round =>
    obtain ⟨i, rfl, hik, H⟩ := hrel
    by_cases hlt : i < k
    · go_wp2_with fail
      refine (H.out.alloc0 (by rw [thunkM_len]; omega) 1 (i : Int)).mono ?_
      rintro e w3 ⟨he, h3, -⟩
      rw [thunkM_alloc (by omega)] at he h3
      subst he
      have H3 := hide h3
      clear h3
      go_wp2_with fail
      go_roundw
      case rel => exact ⟨i + 1, by go_num, by omega, Lib.hid (unhide H3)⟩
      case measure => simp [intOf]; omega
    · obtain rfl : i = k := by omega
      go_wp2_with fail
      refine (H.out.alloc0 (by rw [thunkM_len]; omega) 4 99).mono ?_
      rintro e w3 ⟨he, h3, -⟩
      rw [onceM_start (by omega)] at he h3
      subst he
      have hmk := HMK.out w3
      have H4 : Hid (LE w (w3.alloc (.cells (stA i (fun _ => 0)) 3)) (fun b => b < g ∨ b = w3.heap.size) g 100 (onceM i (fun _ => 0)) (onceF i (fun _ => 0))) := Lib.hid (by rw [onceF_start]; exact h3.add _)
      have K4 := hide (Blk.new w3 3 (stA i (fun _ => 0)))
      obtain ⟨bs, hbs⟩ : ∃ b, Hid (b = w3.heap.size) := ⟨_, Lib.hid rfl⟩
      rw [← hbs.out] at H4 K4
      have hbsw : w.heap.size ≤ bs := by rw [hbs.out]; exact h3.below.size
      clear h3
      go_wp2_with fail
      simp only [← hbs.out]
      generalize w3.alloc (.cells (stA i (fun _ => 0)) 3) = w4 at *
      go_loopw [12] (fun iv wr => ∃ (q : Nat) (s : Nat → Nat), iv = .int .i64 q ∧ Hid (LE w wr (fun b => b < g ∨ b = bs) g 100 (onceM i s) (onceF i s)) ∧ Hid (Blk wr bs 3 (stA i s)) ∧ Hid (∀ j, s j ≤ 2)) (fun iv _ => 60 - (intOf iv).toNat)
      case atStart => exact ⟨0, _, rfl, H4, Lib.hid (unhide K4), Lib.hid (fun _ => by omega)⟩
      case round =>
        obtain ⟨q, s, rfl, H, K, HU⟩ := hrel
        by_cases hqn : q < n1
        · by_cases hq6 : q < 60
          · have gq1 : decide ((q : Int) < (n1 : Int)) = true := decide_eq_true (by omega)
            have gq2 : decide ((q : Int) < 60) = true := decide_eq_true (by omega)
            obtain ⟨bo, off, zq, hA, hzq, hcq⟩ : ∃ (bo off zq : Nat), A1 = some ⟨bo, off, none⟩ ∧ zq < 256 ∧ wr.cell? ⟨bo, off + q, none⟩ = some (.int .u8 (zq : Int)) := by
              rcases unhide HB with q0 | ⟨bo, off, hA, hbo, hc⟩
              · omega
              · obtain ⟨zq, hz, hcz⟩ := hc q hqn
                exact ⟨bo, off, zq, hA, hz, (H.out.below.cell (p := ⟨bo, off + q, none⟩) hbo).trans hcz⟩
            subst hA
            obtain ⟨r, hr⟩ : ∃ r, Hid (r = zq % i) := ⟨_, Lib.hid rfl⟩
            have hri : r < i := by rw [hr.out]; exact Nat.mod_lt _ (by omega)
            have hrz : (zq : Int) % (i : Int) = (r : Int) := by rw [hr.out]; omega
            have gi0 : (0 : Int) < (i : Int) := by omega
            have gi1 : ((i : Int) == 0) = false := beq_eq_false_iff_ne.2 (by omega)
            have gr0 : (0 : Int) ≤ (r : Int) := by omega
            have gr1 : (r : Int) < (i : Int) := by omega
            have hs3 : s r = 0 ∨ s r = 1 ∨ s r = 2 := by have := HU.out r; omega
            rcases hs3 with hs0 | hs0 | hs0
            · skip
              have HS0 := Lib.hid hs0
              have c0 : wr.cell? ⟨bs, r, none⟩ = some (.int .i64 0) := by
                have q9 := K.out.cell r
                rw [stA_at s hri, hs0] at q9
                exact q9
              clear hs0
              go_wp2_with fail
              refine (H.out.enter (r : Int)).mono ?_
              rintro e w5 ⟨⟨A5, n5, c5, he⟩, h5, k5⟩
              rw [(once_enter0 hri HS0.out).1] at he h5
              rw [(once_enter0 hri HS0.out).2] at h5
              subst he
              have H5 := hide (h5.to ((Below.refl _ _).alloc (Nat.le_refl _) (.cells #[.int .i64 1, .int .i64 (r : Int), .slice A5 n5 c5] 43)))
              have K5 := hide ((K.out.keep k5 (.inr rfl)).alloc (.cells #[.int .i64 1, .int .i64 (r : Int), .slice A5 n5 c5] 43))
              have d0 := (unhide K5).cell r
              rw [stA_at s hri, HS0.out] at d0
              change (w5.alloc (.cells #[.int .i64 1, .int .i64 (r : Int), .slice A5 n5 c5] 43)).cell? ⟨bs, r, none⟩ = some (.int .i64 0) at d0
              have f0 := (unhide K5).frozen r
              clear h5 k5 K H c0
              go_wp2_with fail
              have K7 := (unhide K5).set_ r (.int .i64 1)
              rw [show (Value.int IntKind.i64 1) = Value.int .i64 ((1 : Nat) : Int) from rfl, stA_set] at K7
              have KH7 := hide K7
              clear K7
              have H7 := hide ((unhide H5).set_ (p := ⟨bs, r, none⟩) (.inr rfl) hbsw (.int .i64 1))
              go_roundw
              case rel => exact ⟨q + 1, upS s r 1, by go_num, Lib.hid (unhide H7), Lib.hid (unhide KH7), Lib.hid (fun j => by first | exact HU.out j | (unfold upS; split; omega; exact HU.out j))⟩
              case measure => simp [intOf]; omega
            · skip
              have HS0 := Lib.hid hs0
              have c0 : wr.cell? ⟨bs, r, none⟩ = some (.int .i64 1) := by
                have q9 := K.out.cell r
                rw [stA_at s hri, hs0] at q9
                exact q9
              clear hs0
              go_wp2_with fail
              refine (H.out.enter (r : Int)).mono ?_
              rintro e w5 ⟨⟨A5, n5, c5, he⟩, h5, k5⟩
              rw [once_enter1 hri HS0.out] at he h5
              subst he
              have H5 := hide (h5.to ((Below.refl _ _).alloc (Nat.le_refl _) (.cells #[.int .i64 0, .int .i64 0, .slice A5 n5 c5] 43)))
              have K5 := hide ((K.out.keep k5 (.inr rfl)).alloc (.cells #[.int .i64 0, .int .i64 0, .slice A5 n5 c5] 43))
              have d0 := (unhide K5).cell r
              rw [stA_at s hri, HS0.out] at d0
              change (w5.alloc (.cells #[.int .i64 0, .int .i64 0, .slice A5 n5 c5] 43)).cell? ⟨bs, r, none⟩ = some (.int .i64 1) at d0
              have f0 := (unhide K5).frozen r
              clear h5 k5 K H c0
              go_wp2_with fail
              refine ((unhide H5).update (r : Int) (i : Int)).mono ?_
              rintro e w6 ⟨he, h6, k6⟩
              rw [once_update hri HS0.out] at he h6
              subst he
              have H6 := hide h6
              have K6 := hide ((unhide K5).keep k6 (.inr rfl))
              have d0 := (unhide K6).cell r
              rw [stA_at s hri, HS0.out] at d0
              change w6.cell? ⟨bs, r, none⟩ = some (.int .i64 1) at d0
              have f0 := (unhide K6).frozen r
              clear h6 k6 K5 H5
              go_wp2_with fail
              have K7 := (unhide K6).set_ r (.int .i64 2)
              rw [show (Value.int IntKind.i64 2) = Value.int .i64 ((2 : Nat) : Int) from rfl, stA_set] at K7
              have KH7 := hide K7
              clear K7
              have H7 := hide ((unhide H6).set_ (p := ⟨bs, r, none⟩) (.inr rfl) hbsw (.int .i64 2))
              go_roundw
              case rel => exact ⟨q + 1, upS s r 2, by go_num, Lib.hid (unhide H7), Lib.hid (unhide KH7), Lib.hid (fun j => by first | exact HU.out j | (unfold upS; split; omega; exact HU.out j))⟩
              case measure => simp [intOf]; omega
            · skip
              have HS0 := Lib.hid hs0
              have c0 : wr.cell? ⟨bs, r, none⟩ = some (.int .i64 2) := by
                have q9 := K.out.cell r
                rw [stA_at s hri, hs0] at q9
                exact q9
              clear hs0
              go_wp2_with fail
              refine (H.out.enter (r : Int)).mono ?_
              rintro e w5 ⟨⟨A5, n5, c5, he⟩, h5, k5⟩
              rw [once_enter2 hri HS0.out] at he h5
              subst he
              have H5 := hide (h5.to ((Below.refl _ _).alloc (Nat.le_refl _) (.cells #[.int .i64 0, .int .i64 0, .slice A5 n5 c5] 43)))
              have K5 := hide ((K.out.keep k5 (.inr rfl)).alloc (.cells #[.int .i64 0, .int .i64 0, .slice A5 n5 c5] 43))
              have d0 := (unhide K5).cell r
              rw [stA_at s hri, HS0.out] at d0
              change (w5.alloc (.cells #[.int .i64 0, .int .i64 0, .slice A5 n5 c5] 43)).cell? ⟨bs, r, none⟩ = some (.int .i64 2) at d0
              have f0 := (unhide K5).frozen r
              clear h5 k5 K H c0
              go_wp2_with fail
              have HSS : Hid (upS s r 2 = s) := Lib.hid (by funext j; unfold upS; split; rename_i h; rw [h, HS0.out]; rfl)
              have K7 := (unhide K5).set_ r (.int .i64 2)
              rw [show (Value.int IntKind.i64 2) = Value.int .i64 ((2 : Nat) : Int) from rfl, stA_set] at K7
              rw [HSS.out] at K7
              have KH7 := hide K7
              clear K7
              have H7 := hide ((unhide H5).set_ (p := ⟨bs, r, none⟩) (.inr rfl) hbsw (.int .i64 2))
              go_roundw
              case rel => exact ⟨q + 1, s, by go_num, Lib.hid (unhide H7), Lib.hid (unhide KH7), Lib.hid (fun j => by first | exact HU.out j | (unfold upS; split; omega; exact HU.out j))⟩
              case measure => simp [intOf]; omega
          · have gq1 : decide ((q : Int) < (n1 : Int)) = true := decide_eq_true (by omega)
            have gq2 : decide ((q : Int) < 60) = false := decide_eq_false (by omega)
            go_wp2_with fail
            go_ret
            exact ⟨rfl, H.out.below⟩
        · have gq1 : decide ((q : Int) < (n1 : Int)) = false := decide_eq_false (by omega)
          go_wp2_with fail
          go_ret
          exact ⟨rfl, H.out.below⟩
theorem heapOnce_any (z : Int) (hz0 : 0 ≤ z) (hz1 : z ≤ 255) (A1 : Option Addr) (n1 c1 : Nat) (h1 : n1 ≤ maxLen) (w : World) (hB : InBy w A1 n1) : Calls Try.prog 4 #[.int .u8 z, .slice A1 n1 c1] w fun e w' => e = .returned (.bool true) ∧ Below w.heap.size w w' :=
  heapOnce_core z hz0 hz1 (z % 20).toNat _ (by omega) rfl (by omega) A1 n1 c1 h1 w hB
end Go.Proofs.Ytcdapnhcgbkikaa
