/- FinsetSubsetsCount returns true: a set of n elements has 2^n subsets, the union of which is the set, and each of which is a subset. No conditions but that a slice of numbers has a length. -/
import Derived.Test.YtaambeficfiacaaGreatFnO
namespace Go.Proofs.YtaambeficfiacaaGreat
open Go Go.RowKit VM

theorem subM_full : ∀ l : List ByteArray, subM l (2 ^ l.length - 1) = l
  | [] => rfl
  | p :: r => by
    have hp : 0 < 2 ^ r.length := Nat.pow_pos (by omega)
    have e1 : (2 ^ (p :: r).length - 1) % 2 = 1 := by rw [List.length_cons, Nat.pow_succ]; omega
    have e2 : (2 ^ (p :: r).length - 1) / 2 = 2 ^ r.length - 1 := by rw [List.length_cons, Nat.pow_succ]; omega
    show (if (2 ^ (p :: r).length - 1) % 2 = 1 then [p] else []) ++ subM r ((2 ^ (p :: r).length - 1) / 2) = _
    rw [if_pos e1, e2, subM_full r]; rfl
/-- a subset's difference is empty -/
theorem sub_diff {X : List ByteArray} (h : SmallL X) {s : ByteArray} (hs : s ∈ subL (sortM X)) : combM (fun p q => p && !q) s (setM X) = (setM [], 0) ∧ s.size ≤ 281474976710656 := by
  unfold subL at hs
  obtain ⟨m, _, rfl⟩ := List.mem_map.1 hs
  refine ⟨?_, small_size (subM_small h m)⟩
  rw [small_comb _ (subM_small h m) h]
  congr 1
  refine setM_eq fun u => ⟨fun q => ?_, fun q => by cases q⟩
  obtain ⟨q1, q2⟩ := mrg_mem.1 q
  rw [Bool.and_eq_true, Bool.not_eq_true'] at q2
  have h1 := sortM_mem.1 (hasB_iff.1 q2.1)
  have h2 : u ∈ sortM X := (subM_sub _ _).subset h1
  rw [hasB_iff.2 h2] at q2
  cases q2.2
/-- the union of the subsets is the set -/
theorem sub_union {X : List ByteArray} (h : SmallL X) : bigU (setM (subL (sortM X))) = (setM X, 0) := by
  obtain ⟨h1, h2, h3, h4⟩ := small_subs h
  have hp : ∀ s ∈ subL (sortM X), isK 5 s = true ∧ ∃ m, pt s = sortM (subM (sortM X) m) := fun s hs => by
    unfold subL at hs
    obtain ⟨m, _, rfl⟩ := List.mem_map.1 hs
    exact ⟨(small_set (subM_small h m)).1, m, (small_set (subM_small h m)).2⟩
  have hok : okS (setM (subL (sortM X))) = true := by
    unfold okS
    rw [h3, h4, Bool.true_and, List.all_eq_true]
    exact fun s hs => (hp s (sortM_mem.1 hs)).1
  unfold bigU
  rw [if_pos hok, h4]
  have hm : ∀ u, u ∈ (sortM (subL (sortM X))).flatMap pt ↔ u ∈ X := fun u => by
    rw [List.mem_flatMap]
    constructor
    · rintro ⟨s, hs, hu⟩
      obtain ⟨_, m, e⟩ := hp s (sortM_mem.1 hs)
      rw [e] at hu
      exact sortM_mem.1 ((subM_sub _ _).subset (sortM_mem.1 hu))
    · intro hu
      have hpos : 0 < 2 ^ (sortM X).length := Nat.pow_pos (by omega)
      refine ⟨setM (subM (sortM X) (2 ^ (sortM X).length - 1)), sortM_mem.2 (List.mem_map.2 ⟨_, List.mem_range.2 (by omega), rfl⟩), ?_⟩
      rw [(small_set (subM_small h _)).2, subM_full]
      exact sortM_mem.2 (sortM_mem.2 hu)
  rw [bnd_congr (sortM_congr hm), small_bnd h]
set_option linter.unusedSimpArgs false in
set_option maxRecDepth 100000 in
set_option maxHeartbeats 12800000 in
theorem finsetSubsetsCount_any (a0 : Option Addr) (n0 c0 : Nat) (h0 : n0 ≤ maxLen) (w : World) (hI0 : InInts w a0 n0) :
    Calls Tryz.prog 7 #[.slice a0 n0 c0] w fun e w' => e = .returned (.bool true) ∧ Below w.heap.size w w' := by
  have HC0 := hide (CSt.start (c := c0) hI0)
  have HB0 : Hid (Below w.heap.size w (w.alloc (.cells #[.slice a0 n0 c0, .int .i64 0] 56))) := hide ((Below.refl _ _).alloc (Nat.le_refl _) _)
  have HN0 := Lib.hid h0
  clear hI0 h0
  go_enter Tryz.func7, Tryz.ntmps7
  go_wp2_with fail
  refine (new_cho w a0 n0 c0).mono ?_
  rintro e w1 ⟨rfl, rfl⟩
  generalize w.alloc (.cells #[.slice a0 n0 c0, .int .i64 0] 56) = w1 at *
  obtain ⟨g0, hg0⟩ : ∃ g0, g0 = w.heap.size := ⟨_, rfl⟩
  rw [← hg0] at HC0 ⊢
  have hg0l : w.heap.size ≤ g0 := Nat.le_of_eq hg0.symm
  have HW : Hid (g0 = w.heap.size) := Lib.hid hg0
  clear hg0
  go_wp2_with fail
  refine (ints_st w1 g0 a0 n0 c0 (unhide HC0) HN0.out).mono ?_
  rintro e w2 ⟨X, rfl, hX, -, hC2, hG2⟩
  have HB2 := hide (below_grown (unhide HB0) hG2 hg0l (Nat.le_refl _))
  clear hC2 hG2 HC0 HB0
  have c1 := Lib.hid (fun w => pSubsets_any (setM X) (small_size hX) w)
  rw [small_subsetM hX] at c1
  have c2 := Lib.hid (fun w => rpartsO_any (setM (subL (sortM X))) (by have := setM_size (subL (sortM X)); omega) w)
  rw [(small_subs hX).2.2.2] at c2
  have c3 := Lib.hid (fun w => rpartsO_any (setM X) (small_size hX) w)
  rw [(small_set hX).2] at c3
  have c4 := Lib.hid (fun w => pBigUnion_any (setM (subL (sortM X))) (by have := setM_size (subL (sortM X)); omega) w)
  rw [sub_union hX] at c4
  have c5 := Lib.hid (fun s (hs : s ∈ sortM (subL (sortM X))) w => by
    have h := pDiff_any s (setM X) (sub_diff hX (sortM_mem.1 hs)).2 (small_size hX) w
    rwa [(sub_diff hX (sortM_mem.1 hs)).1] at h)
  have c6 := Lib.hid (fun w => rpartsO_any (setM []) (small_size small_nil) w)
  rw [(small_set small_nil).2] at c6
  have HLN := Lib.hid (small_subs hX).2.1
  have h6 := small_len hX
  have q1 := tl_self (setM X)
  unfold RetV at c1 c4 c5
  obtain ⟨n, hn⟩ : ∃ n, n = (sortM X).length := ⟨_, rfl⟩
  rw [← hn] at HLN h6
  obtain ⟨N, hN⟩ : ∃ N, N = 2 ^ n := ⟨_, rfl⟩
  have hN64 : N ≤ 64 := by rw [hN]; exact Nat.le_trans (Nat.pow_le_pow_right (by omega) h6) (by decide)
  have hwN : wrap64 ((2 : Int) ^ n) = (N : Int) := by
    have e : ((2 : Int) ^ n) = ((2 ^ n : Nat) : Int) := by simp
    rw [e, ← hN]; exact IntWalk.wrap64_in _ (by omega)
  rw [← hN] at HLN
  have HX := Lib.hid hn
  have HSE : Hid (sortM [] = ([] : List ByteArray)) := Lib.hid rfl
  clear hX hN hn
  generalize setM (subL (sortM X)) = s at *
  generalize sortM (subL (sortM X)) = sl at *
  generalize setM X = a at *
  generalize sortM X = xl at *
  generalize setM [] = z at *
  go_wp2_with fail
  refine (c1.out _).mono ?_
  rintro e w3 ⟨rfl, hb3⟩
  have HB3 := hide ((unhide HB2).trans (hb3.mono (unhide HB2).size))
  clear hb3 HB2
  go_wp2_with fail
  refine (c2.out _).mono ?_
  rintro e w4 ⟨S4, k4, m4, rfl, hm4, hO4, hb4⟩
  have HB4 := hide ((unhide HB3).trans (hb4.mono (unhide HB3).size))
  have HI4 := hide (InC.own hO4)
  obtain rfl : m4 = N := hm4.trans HLN.out
  have HM4 := Lib.hid hm4
  clear hb4 HB3 hO4 hm4
  go_wp2_with fail
  refine (fawake_any _).mono ?_
  rintro e w5 ⟨rfl, hb5⟩
  have HB5 := hide ((unhide HB4).trans (hb5.mono (unhide HB4).size))
  have HI5 := hide ((unhide HI4).below hb5)
  clear hb5 HB4 HI4
  go_wp2_with fail
  refine (c3.out _).mono ?_
  rintro e w6 ⟨S6, k6, n6, rfl, hn6, hO6, hb6⟩
  have HB6 := hide ((unhide HB5).trans (hb6.mono (unhide HB5).size))
  have HI6 := hide ((unhide HI5).below hb6)
  obtain rfl : n6 = n := hn6.trans HX.out.symm
  clear hb6 HB5 HI5 hO6 hn6
  go_wp2_with fail
  clear hwN
  go_loopw [7] (fun iv wr => ∃ k : Nat, iv = .int .i64 k ∧ k ≤ m4 ∧ Hid (InC wr S4 (sl.map Value.string)) ∧ Hid (Below w.heap.size w wr)) (fun iv _ => m4 - (intOf iv).toNat)
  case atStart => exact ⟨0, rfl, by omega, unhide HI6, unhide HB6⟩
  case round =>
    obtain ⟨k, rfl, hk, hI, hB⟩ := hrel
    clear HI6 HB6
    by_cases hkL : k < m4
    · obtain ⟨v, hv⟩ : ∃ v, sl[k]? = some v := ⟨sl[k]'(by have := HM4.out; omega), List.getElem?_eq_getElem _⟩
      obtain ⟨b5, o5, hS3, hb5, hc5⟩ := at1s hI.out (i := k) (u := .string v) (by rw [List.getElem?_map, hv]; rfl)
      subst hS3
      have HC := Lib.hid (fun w => c5.out v (List.mem_of_getElem? hv) w)
      clear hv
      go_wp2_with fail
      refine (HC.out _).mono ?_
      rintro e w7 ⟨rfl, hb7⟩
      have HB7 := hide (hB.out.trans (hb7.mono hB.out.size))
      have HI7 := hide (hI.out.below hb7)
      clear hb7 hB hI hc5
      go_wp2_with fail
      refine (c6.out _).mono ?_
      rintro e w8 ⟨S8, k8, n8, rfl, hn8, hO8, hb8⟩
      have HB8 := hide ((unhide HB7).trans (hb8.mono (unhide HB7).size))
      have HI8 := hide ((unhide HI7).below hb8)
      obtain rfl : n8 = 0 := by rw [hn8, HSE.out]; rfl
      clear hb8 hO8 hn8
      go_wp2_with fail
      go_roundw
      case rel => exact ⟨k + 1, by go_num, by omega, unhide HI8, unhide HB8⟩
      case measure => simp [intOf]; omega
    · have HB7 := hide hB.out
      clear hB hI
      go_wp2_with fail
      refine (c4.out _).mono ?_
      rintro e w8 ⟨rfl, hb8⟩
      have HB8 := hide ((unhide HB7).trans (hb8.mono (unhide HB7).size))
      clear hb8
      go_wp2_with fail
      go_ret
      exact ⟨rfl, unhide HB8⟩

end Go.Proofs.YtaambeficfiacaaGreat
