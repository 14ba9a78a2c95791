/- PatternSplits. No conditions. -/
-- by tools/gen_ptu.py
import Derived.Test.YtdifpemohdnolaaGreatPuA
namespace Go.Proofs.YtdifpemohdnolaaGreat
open Go.RowKit VM

theorem one_row (A : Option Addr) (m d : Nat) : ∀ u ∈ [Value.slice A m d], u.oneCell' = true := by
  intro u hu
  simp at hu
  subst hu
  rfl
/-- what the pattern of the law leaves of the sequence of k numbers -/
def midR (a b k : Nat) : ByteArray := mkM 4 (((intL k).take (k - b)).drop a)
def outR (a b k : Nat) : List ByteArray := (intL k).take a ++ [midR a b k] ++ (intL k).drop (k - b)
theorem splits_r (a b k : Nat) (ha : a + b ≤ 1000) (hk : k ≤ 1000) : matchR (catP a (a + (b + 1))) (mkM 4 (intL k)) = if a + b ≤ k then some (outR a b k) else none := by
  rw [catP_match (by omega) (by omega) (seq_facts (intL_val k) (intL_tot hk)).1, around_seq (intL_val k) (intL_tot hk)]
  rw [intL_len, show a + (b + 1) - 1 = a + b by omega]
  unfold outR midR
  rw [show a + b - a = b by omega]
theorem outR_len {a b k : Nat} (h : a + b ≤ k) : (outR a b k).length = a + (b + 1) := by
  unfold outR
  rw [List.length_append, List.length_append, List.length_take, List.length_drop, intL_len]
  simp
  omega
theorem outR_get {a b k : Nat} (h : a + b ≤ k) : (outR a b k)[a]? = some (midR a b k) := by
  unfold outR
  have hl : ((intL k).take a).length = a := by rw [List.length_take, intL_len]; omega
  rw [List.append_assoc, List.getElem?_append_right (by omega), hl, Nat.sub_self]
  rfl
theorem outR_take {a b k : Nat} (h : a + b ≤ k) : ((outR a b k).take a).drop 0 = ((intL k).take a).drop 0 := by
  unfold outR
  have hl : ((intL k).take a).length = a := by rw [List.length_take, intL_len]; omega
  rw [List.append_assoc, List.take_append_of_le_length (by omega), List.take_of_length_le (by omega)]
theorem outR_drop {a b k : Nat} (h : a + b ≤ k) : ((outR a b k).take (a + (b + 1))).drop (a + 1) = ((intL k).take k).drop (k - b) := by
  have hl : ((intL k).take a).length = a := by rw [List.length_take, intL_len]; omega
  rw [List.take_of_length_le (by rw [outR_len h]; exact Nat.le_refl _), List.take_of_length_le (by rw [intL_len]; exact Nat.le_refl _)]
  unfold outR
  rw [List.drop_append, List.drop_eq_nil_of_le (by rw [List.length_append, hl]; simp), List.length_append, hl]
  simp
theorem small48 {l : List ByteArray} {k : Nat} (h : ∀ s ∈ l, s ∈ intL k) : ∀ s ∈ l, s.size ≤ 281474976710656 := fun s hs => Nat.le_trans (intL_size k s (h s hs)) (by decide)
attribute [-go_sem] Go.sliced in
set_option linter.unusedSimpArgs false in
set_option maxRecDepth 100000 in
set_option maxHeartbeats 6400000 in
theorem patternSplits_core (n m s : Int) (hn0 : 0 ≤ n) (hn1 : n ≤ 255) (hm0 : 0 ≤ m) (hm1 : m ≤ 255) (hs0 : 0 ≤ s) (hs1 : s ≤ 255) (a b k : Nat) (ha : n % 5 = (a : Int)) (hb : m % 5 = (b : Int)) (hk : s % 12 = (k : Int)) (w : World) :
    Calls Tryz.prog 7 #[.int .u8 n, .int .u8 m, .int .u8 s] w fun e w' => e = .returned (.bool true) ∧ Below w.heap.size w w' := by
  have ha5 : a < 5 := by omega
  have hb5 : b < 5 := by omega
  have hk12 : k < 12 := by omega
  obtain ⟨i0, hi0, hiz0, hiz1, hiz2⟩ := info_parts row_info
  obtain ⟨j0, hj0, hjz0, hjz1, hjz2⟩ := info_parts val_info
  have HS0 := hide (PInv.start w)
  have hsz48 : (mkM 4 (intL k)).size ≤ 281474976710656 := Nat.le_trans (mkM_small 4 _) (by decide)
  have HAW := Lib.hid (fun W => awake_any W)
  have HMK := Lib.hid (fun W A c (hr : InC W A ((intL k).map Value.string)) => rmake_any 4 (by decide) (intL k) A k c W (intL_len k).symm (by omega) (small48 fun s hs => hs) hr)
  have HMT := Lib.hid (fun W A d (hr : InC W A ((catP a (a + (b + 1))).flatMap cdCells)) => match_any (catP a (a + (b + 1))) A (a + (b + 1) + 1) d (mkM 4 (intL k)) hsz48 W (catP_len _ _).symm (by omega) hr)
  rw [splits_r a b k (by omega) (by omega)] at HMT
  have HQ := Lib.hid (fun (h : a + b ≤ k) => (⟨outR_len h, outR_get h⟩ : _ ∧ _))
  have HIL : Hid ((intL k).length = k) := Lib.hid (intL_len k)
  have HMID := Lib.hid (fun (h : a + b ≤ k) W A c (hr : InC W A (((((intL k).take (k - b)).drop a)).map Value.string)) => rmake_any 4 (by decide) (((intL k).take (k - b)).drop a) A (k - b - a) c W (by rw [List.length_drop, List.length_take, intL_len]; omega) (by omega) (small48 fun s hs => List.mem_of_mem_take (List.mem_of_mem_drop hs)) hr)
  have HE1 := Lib.hid (fun (h : a + b ≤ k) W A B ca cb (hr : InC W A ((((outR a b k).take a).drop 0).map Value.string)) (hr2 : InC W B ((((intL k).take a).drop 0).map Value.string)) => eqS_me (((intL k).take a).drop 0) A B a a ca cb W (by rw [List.length_drop, List.length_take, intL_len]; omega) (by rw [List.length_drop, List.length_take, intL_len]; omega) (by omega) (by omega) (by rw [outR_take h] at hr; exact hr) hr2)
  have HE2 := Lib.hid (fun (h : a + b ≤ k) W A B ca cb nA nB (h1 : nA = b) (h2 : nB = b) (hr : InC W A ((((outR a b k).take (a + (b + 1))).drop (a + 1)).map Value.string)) (hr2 : InC W B ((((intL k).take k).drop (k - b)).map Value.string)) => eqS_me (((intL k).take k).drop (k - b)) A B nA nB ca cb W (by rw [List.length_drop, List.length_take, intL_len]; omega) (by rw [List.length_drop, List.length_take, intL_len]; omega) (by omega) (by omega) (by rw [outR_drop h] at hr; exact hr) hr2)
  have hmidE : mkM 4 (((intL k).take (k - b)).drop a) = midR a b k := rfl
  rw [hmidE] at HMID
  clear hsz48 hmidE
  generalize mkM 4 (intL k) = sq at *
  generalize midR a b k = mid at *
  generalize outR a b k = O at *
  go_enter Tryz.func7, Tryz.ntmps7
  go_wp2_with fail
  simp only [ha, hb, hk]
  clear ha hb hk
  go_loopw [10, 11] (fun sv iv wr => ∃ (i : Nat) (rs : List Row), iv = .int .i64 i ∧ i ≤ a ∧ Hid (PInv w wr sv rs (List.replicate i [pv]))) (fun _ iv _ => a - (intOf iv).toNat)
  case atStart => exact ⟨0, [], rfl, by omega, unhide HS0⟩
  case round =>
    obtain ⟨i, rs, rfl, hi, hP⟩ := hrel
    clear HS0
    obtain ⟨X, c, rfl⟩ := owns_form (by have h := hP.out.own; rw [rep_len] at h; exact h)
    by_cases hlt : i < a
    · go_wp2_with fail
      refine (node_pv _).mono ?_
      rintro e w1 ⟨A1, m1, d1, rfl, hm1, ho1, hb1⟩
      obtain rfl : m1 = 1 := hm1
      have HN := hide ho1
      have HB1 := hide hb1
      have HO := hide (owns_below (owns_below (by have h := hP.out.own; rw [rep_len] at h; exact h) hb1) ((Below.refl _ _).alloc (Nat.le_refl _) (.cells #[.slice A1 1 d1] 22)))
      have hsz : w.heap.size ≤ (w1.alloc (.cells #[.slice A1 1 d1] 22)).heap.size := by have := hP.out.below.size; have := hb1.size; simp; omega
      clear hm1 ho1 hb1
      go_wp2_with (at_builtin; refine wpList_app _ rfl _ _ 52 rfl w.heap.size 22 i0 _ 1 24 Tryz.underlying52 hi0 hiz0 hiz1 hiz2 rfl (by decide) _ i _ rfl (unhide HO) (some ⟨w1.heap.size, 0, none⟩) 1 1 [.slice A1 1 d1] rfl rfl (new_in w1 22 #[.slice A1 1 d1]) (one_row A1 1 d1) (by unfold maxLen; omega) (by omega) hsz ?_; intro v5 w5 hown5 hgrow5 _)
      have HP5 := hide (PInv.step hP.out rfl (by decide) (unhide HN) (unhide HB1) (by rw [rep_len]; exact hown5) hgrow5)
      clear hown5 hgrow5 HN HB1 HO hP hsz
      go_wp2_with fail
      go_roundw
      case rel => exact ⟨i + 1, rs ++ [(A1, 1, d1)], by go_num, by omega, by rw [rep_succ]; exact unhide HP5⟩
      case measure => simp [intOf]; omega
    · obtain rfl : i = a := by omega
      have HP0 := hide hP.out
      clear hP
      go_wp2_with fail
      go_loopw [10, 12] (fun sv iv wr => ∃ (j : Nat) (rs : List Row), iv = .int .i64 j ∧ j ≤ b + 1 ∧ Hid (PInv w wr sv rs (List.replicate (i + j) [pv]))) (fun _ iv _ => b + 1 - (intOf iv).toNat)
      case atStart => exact ⟨0, rs, rfl, by omega, unhide HP0⟩
      case round =>
        clear HP0 hi
        obtain ⟨j, rs2, rfl, hj, hP⟩ := hrel
        obtain ⟨X2, c2, rfl⟩ := owns_form (by have h := hP.out.own; rw [rep_len] at h; exact h)
        by_cases hlt2 : j ≤ b
        · have hltI : (j : Int) ≤ (b : Int) := by omega
          go_wp2_with fail
          refine (node_pv _).mono ?_
          rintro e w1 ⟨A1, m1, d1, rfl, hm1, ho1, hb1⟩
          obtain rfl : m1 = 1 := hm1
          have HN := hide ho1
          have HB1 := hide hb1
          have HO := hide (owns_below (owns_below (by have h := hP.out.own; rw [rep_len] at h; exact h) hb1) ((Below.refl _ _).alloc (Nat.le_refl _) (.cells #[.slice A1 1 d1] 22)))
          have hsz : w.heap.size ≤ (w1.alloc (.cells #[.slice A1 1 d1] 22)).heap.size := by have := hP.out.below.size; have := hb1.size; simp; omega
          clear hm1 ho1 hb1
          go_wp2_with (at_builtin; refine wpList_app _ rfl _ _ 52 rfl w.heap.size 22 i0 _ 1 24 Tryz.underlying52 hi0 hiz0 hiz1 hiz2 rfl (by decide) _ (i + j) _ rfl (unhide HO) (some ⟨w1.heap.size, 0, none⟩) 1 1 [.slice A1 1 d1] rfl rfl (new_in w1 22 #[.slice A1 1 d1]) (one_row A1 1 d1) (by unfold maxLen; omega) (by omega) hsz ?_; intro v5 w5 hown5 hgrow5 _)
          have HP5 := hide (PInv.step hP.out rfl (by decide) (unhide HN) (unhide HB1) (by rw [rep_len]; exact hown5) hgrow5)
          clear hown5 hgrow5 HN HB1 HO hP hsz
          go_wp2_with fail
          go_roundw
          case rel => exact ⟨j + 1, rs2 ++ [(A1, 1, d1)], by go_num, by omega, by rw [← Nat.add_assoc, rep_succ]; exact unhide HP5⟩
          case measure => simp [intOf]; omega
        · obtain rfl : j = b + 1 := by omega
          have HP0 := hide hP.out
          have hjI : ¬ ((b : Int) + 1 ≤ (b : Int)) := by omega
          clear hP
          go_wp2_with fail
          go_loopw [13, 14] (fun sv iv wr => ∃ (q : Nat), iv = .int .i64 q ∧ q ≤ k ∧ Hid (PInv w wr (.slice X2 (i + (b + 1)) c2) rs2 (List.replicate (i + (b + 1)) [pv])) ∧ Hid (wr.ownsRow w.heap.size 23 1 sv q ((intL q).map Value.string))) (fun _ iv _ => k - (intOf iv).toNat)
          case atStart => exact ⟨0, rfl, by omega, unhide HP0, World.ownsRow_nil _ _ _ _⟩
          case round =>
            clear HP0 hj
            obtain ⟨q, rfl, hq, hP, hL⟩ := hrel
            obtain ⟨L, cl, rfl⟩ := owns_form hL.out
            by_cases hlt3 : q < k
            · go_wp2_with fail
              refine (rint_any _ _).mono ?_
              rintro e w1 ⟨rfl, hb1⟩
              have HB1 := hide hb1
              have HO := hide (owns_below (owns_below hL.out hb1) ((Below.refl _ _).alloc (Nat.le_refl _) (.cells #[.string (intB (q : Int))] 23)))
              have hsz : w.heap.size ≤ (w1.alloc (.cells #[.string (intB (q : Int))] 23)).heap.size := by have := hP.out.below.size; have := hb1.size; simp; omega
              clear hb1
              go_wp2_with (at_builtin; refine wpList_app _ rfl _ _ 24 rfl w.heap.size 23 j0 _ 1 16 Tryz.underlying24 hj0 hjz0 hjz1 hjz2 rfl (by decide) _ q _ rfl (unhide HO) (some ⟨w1.heap.size, 0, none⟩) 1 1 [.string (intB (q : Int))] rfl rfl (new_in w1 23 #[.string (intB (q : Int))]) (one_str (intB (q : Int))) (by unfold maxLen; omega) (by omega) hsz ?_; intro v5 w5 hown5 hgrow5 _)
              have HP5 := hide ((((unhide hP).to (unhide HB1)).to ((Below.refl _ _).alloc (Nat.le_refl _) (.cells #[.string (intB (q : Int))] 23))).other (unhide HO) (by decide) (by decide) hgrow5)
              have HO5 : Hid (w5.ownsRow w.heap.size 23 1 v5 (q + 1) ((intL (q + 1)).map Value.string)) := hide (by rw [intL_succ, List.map_append]; exact hown5)
              clear hown5 hgrow5 HB1 HO hP hL hsz
              go_wp2_with fail
              go_roundw
              case rel => exact ⟨q + 1, by go_num, by omega, unhide HP5, unhide HO5⟩
              case measure => simp [intOf]; omega
            · obtain rfl : q = k := by omega
              have HND := hide (node_any 36 (i : Int) (List.replicate (i + (b + 1)) [pv]) rs2 X2 (i + (b + 1)) c2 wr (rep_len _).symm (by omega) hP.out.rows.rows (InC.own (by have h := hP.out.own; rw [rep_len] at h; exact h)))
              rw [catP_node] at HND
              have HB := hide hP.out.below
              have HL := hide (InC.own hL.out)
              have hcl := owns_le hL.out
              have HCL := hide hcl
              clear hP hL hcl
              go_wp2_with fail
              refine (unhide HND).mono ?_
              rintro e w1 ⟨AP, mp, dp, rfl, hmp, hop, hb1⟩
              rw [catP_len] at hmp
              subst hmp
              have HIP := hide (InC.own hop)
              have HL1 := hide ((unhide HL).below hb1)
              have HB1 := hide ((unhide HB).trans (hb1.mono (unhide HB).size))
              clear hop hb1 HL HB HND
              go_wp2_with fail
              refine (HMK.out _ L cl (unhide HL1)).mono ?_
              rintro e w2 ⟨rfl, hb2⟩
              have HIP2 := hide ((unhide HIP).below hb2)
              have HL2 := hide ((unhide HL1).below hb2)
              have HB2 := hide ((unhide HB1).trans (hb2.mono (unhide HB1).size))
              clear hb2 HIP HL1 HB1
              go_wp2_with fail
              refine (HMT.out _ AP dp (unhide HIP2)).mono ?_
              rintro e w3 ⟨A, mo, d, rfl, ⟨hout, hno⟩, hb3⟩
              have HL3 := hide ((unhide HL2).below hb3)
              have HB3 := hide ((unhide HB2).trans (hb3.mono (unhide HB2).size))
              clear hb3 HIP2 HL2 HB2 HMT HMK
              by_cases hc : i + b ≤ q
              · rw [if_pos hc] at hout ⊢
                clear hno
                obtain ⟨ho1, _, ho2⟩ := hout O rfl
                have HIO := hide (InC.own ho2)
                have HD := hide (owns_le ho2)
                obtain ⟨hq1, hq2⟩ := HQ.out hc
                obtain rfl : mo = i + (b + 1) := by omega
                have HLEN := hide hq1
                have HGET := hide hq2
                have HMD := Lib.hid (HMID.out hc)
                have HF1 := Lib.hid (HE1.out hc)
                have HF2 := Lib.hid (HE2.out hc)
                have hcI : ¬ ((q : Int) < (i : Int) + (b : Int)) := by omega
                clear hout ho1 ho2 hq1 hq2 HQ HMID HE1 HE2
                simp only [Option.isSome_some]
                obtain ⟨kb, hkb⟩ : ∃ z, z = q - b := ⟨_, rfl⟩
                rw [← hkb] at HMD HF2
                have q7 : (q : Int) - (b : Int) = (kb : Int) := by omega
                have q2 : i ≤ kb := by omega
                have q3 : kb ≤ q := by omega
                have q4 : q ≤ cl := HCL.out
                have q5 : i ≤ d := by have := HD.out; omega
                have q6 : i + (b + 1) ≤ d := HD.out
                have q8 : q - kb = b := by omega
                have q9 : kb ≤ cl := by omega
                have q10 : i ≤ cl := by omega
                have HQ8 := Lib.hid q8
                have q11 : i ≤ i + (b + 1) := by omega
                have q12 : i + 1 ≤ i + (b + 1) := by omega
                have q13 : i + 1 ≤ d := by omega
                have q14 : IntKind.i64.wrap ((i : Int) + 1) = ((i + 1 : Nat) : Int) := by rw [IntWalk.i64_in _ (by omega)]; simp
                obtain ⟨A0, HA0⟩ : ∃ z, Hid (z = if d = 0 then A else A.map (·.add (0 * 1))) := ⟨_, Lib.hid rfl⟩
                obtain ⟨A2, HA2⟩ : ∃ z, Hid (z = if d = i + 1 then A else A.map (·.add ((i + 1) * 1))) := ⟨_, Lib.hid rfl⟩
                obtain ⟨L0, HL0⟩ : ∃ z, Hid (z = if cl = 0 then L else L.map (·.add (0 * 1))) := ⟨_, Lib.hid rfl⟩
                obtain ⟨L1, HL1⟩ : ∃ z, Hid (z = if cl = i then L else L.map (·.add (i * 1))) := ⟨_, Lib.hid rfl⟩
                obtain ⟨L2, HL2⟩ : ∃ z, Hid (z = if cl = kb then L else L.map (·.add (kb * 1))) := ⟨_, Lib.hid rfl⟩
                have HI0 : Hid (∀ W, InC W A (O.map Value.string) → InC W A0 (((O.take i).drop 0).map Value.string)) := Lib.hid (fun W h => by rw [HA0.out]; exact h.sub (by have := HLEN.out; have := HD.out; omega) (by have := HLEN.out; omega))
                have HI2 : Hid (∀ W, InC W A (O.map Value.string) → InC W A2 (((O.take (i + (b + 1))).drop (i + 1)).map Value.string)) := Lib.hid (fun W h => by rw [HA2.out]; exact h.sub (by have := HLEN.out; have := HD.out; omega) (by have := HLEN.out; omega))
                have HJ0 : Hid (∀ W, InC W L ((intL q).map Value.string) → InC W L0 ((((intL q).take i).drop 0).map Value.string)) := Lib.hid (fun W h => by rw [HL0.out]; exact h.sub (by have := HIL.out; have := HCL.out; omega) (by have := HIL.out; omega))
                have HJ1 : Hid (∀ W, InC W L ((intL q).map Value.string) → InC W L1 ((((intL q).take kb).drop i).map Value.string)) := Lib.hid (fun W h => by rw [HL1.out]; exact h.sub (by have := HIL.out; have := HCL.out; omega) (by have := HIL.out; omega))
                have HJ2 : Hid (∀ W, InC W L ((intL q).map Value.string) → InC W L2 ((((intL q).take q).drop kb).map Value.string)) := Lib.hid (fun W h => by rw [HL2.out]; exact h.sub (by have := HIL.out; have := HCL.out; omega) (by have := HIL.out; omega))
                obtain ⟨bA, oA, hAe, _, hx0⟩ := at1s (unhide HIO) (i := i) (u := .string mid) (by rw [List.getElem?_map, HGET.out]; rfl)
                have HAE := Lib.hid hAe
                have HX0 := hide hx0
                subst hAe
                clear hkb hx0 hc HLEN HGET HQ8
                have q16 : IntKind.i64.wrap ((i : Int) + (b : Int)) = (i : Int) + (b : Int) := IntWalk.i64_in _ (by omega)
                have q17 : IntKind.i64.wrap ((i : Int) + (b : Int) + 1) = (i : Int) + ((b : Int) + 1) := by rw [IntWalk.i64_in _ (by omega)]; omega
                have q15 : IntKind.i64.wrap (kb : Int) = (kb : Int) := IntWalk.i64_in _ (by omega)
                go_wp2_with fail
                have fd0 : Hid (w3.drew.cell? ⟨bA, oA + i, none⟩ = some (.string mid)) := hide (unhide HX0)
                have HBd := hide (below_drew (unhide HB3))
                have HIOd := hide (InC.drew (unhide HIO))
                have HLd := hide (InC.drew (unhide HL3))
                refine wp_region_noPanic ?_
                refine wp_region_held_drew (S := fun W => W.cell? ⟨bA, oA + i, none⟩ = some (.string mid)) (by kernel_rfl) fd0 (fun _ => ?_)
                generalize w3.drew = wd at *
                try simp only [Act.put, List.setIfInBounds_toArray, List.set_cons_zero, List.set_cons_succ]
                refine wpAnyH_ready (rs := [0]) (by kernel_rfl) (by simp) ?_
                refine AllReadyH.cons (o := { dst := some 78, op := Op.call { callee := Callee.value (Operand.func 13), args := #[], argTypes := #[] }, type := 4, pos := "law.go:175", after := #[], guard := none }) rfl (fun K hK => ?_) AllReadyH.nil
                go_simp
                go_at_call 13
                refine (HAW.out _).mono ?_
                rintro e w501 ⟨rfl, hba⟩
                have HB4 := hide ((unhide HBd).trans (hba.mono (unhide HBd).size))
                have HIOa := hide ((unhide HIOd).below hba)
                have HLa := hide ((unhide HLd).below hba)
                have fa := hide (cell_down hba (unhide fd0))
                clear hba
                try dsimp only
                refine hK.out _ _ fa (fun _ => ?_)
                clear hK K
                try simp only [Act.put, List.setIfInBounds_toArray, List.set_cons_zero, List.set_cons_succ]
                refine wpAnyH_take (i := 1) (oi := { dst := some 79, op := Op.unOp UnOp.not 4 (Operand.tmp 78), type := 4, pos := "law.go:175", after := #[{ on := 0, ground := Ground.data }], guard := none }) (v := ?_) rfl (by kernel_rfl) (by kernel_rfl) (by kernel_rfl) (fun _ _ _ h => h) (Or.inl ⟨by rfl, ?_⟩) fa ?_
                rotate_left 1
                · intro w hSw
                  try dsimp only at hSw
                  go_simp
                  first
                    | done
                    | with_reducible rfl
                    | rw [if_neg (by omega)]
                try simp only [Act.put, List.setIfInBounds_toArray, List.set_cons_zero, List.set_cons_succ]
                refine wpAnyH_take (i := 2) (oi := { dst := some 80, op := Op.move (Operand.tmp 79), type := 4, pos := "law.go:175", after := #[{ on := 1, ground := Ground.data }, { on := 0, ground := Ground.chain }], guard := none }) (v := ?_) rfl (by kernel_rfl) (by kernel_rfl) (by kernel_rfl) (fun _ _ _ h => h) (Or.inl ⟨by rfl, ?_⟩) fa ?_
                rotate_left 1
                · intro w hSw
                  try dsimp only at hSw
                  go_simp
                  first
                    | done
                    | with_reducible rfl
                    | rw [if_neg (by omega)]
                try simp only [Act.put, List.setIfInBounds_toArray, List.set_cons_zero, List.set_cons_succ]
                refine wpAnyH_take (i := 3) (oi := { dst := some 81, op := Op.move (Operand.tmp 16), type := 4, pos := "law.go:175", after := #[{ on := 2, ground := Ground.guard }], guard := some (2, false) }) (v := ?_) rfl (by kernel_rfl) (by kernel_rfl) (by kernel_rfl) (fun _ _ _ h => h) (Or.inl ⟨by rfl, ?_⟩) fa ?_
                rotate_left 1
                · intro w hSw
                  try dsimp only at hSw
                  go_simp
                  first
                    | done
                    | with_reducible rfl
                    | rw [if_neg (by omega)]
                try simp only [Act.put, List.setIfInBounds_toArray, List.set_cons_zero, List.set_cons_succ]
                refine wpAnyH_take (i := 4) (oi := { dst := some 82, op := Op.unOp UnOp.not 4 (Operand.tmp 81), type := 4, pos := "law.go:175", after := #[{ on := 3, ground := Ground.data }, { on := 2, ground := Ground.guard }], guard := some (2, false) }) (v := ?_) rfl (by kernel_rfl) (by kernel_rfl) (by kernel_rfl) (fun _ _ _ h => h) (Or.inl ⟨by rfl, ?_⟩) fa ?_
                rotate_left 1
                · intro w hSw
                  try dsimp only at hSw
                  go_simp
                  first
                    | done
                    | with_reducible rfl
                    | rw [if_neg (by omega)]
                try simp only [Act.put, List.setIfInBounds_toArray, List.set_cons_zero, List.set_cons_succ]
                refine wpAnyH_take (i := 5) (oi := { dst := some 83, op := Op.pick (Operand.tmp 80) (Operand.const (Value.bool true)) (Operand.tmp 82), type := 4, pos := "law.go:175", after := #[{ on := 2, ground := Ground.data }, { on := 4, ground := Ground.data }], guard := none }) (v := ?_) rfl (by kernel_rfl) (by kernel_rfl) (by kernel_rfl) (fun _ _ _ h => h) (Or.inl ⟨by rfl, ?_⟩) fa ?_
                rotate_left 1
                · intro w hSw
                  try dsimp only at hSw
                  go_simp
                  first
                    | done
                    | with_reducible rfl
                    | rw [if_neg (by omega)]
                try simp only [Act.put, List.setIfInBounds_toArray, List.set_cons_zero, List.set_cons_succ]
                refine wpAnyH_take (i := 6) (oi := { dst := some 84, op := Op.move (Operand.tmp 83), type := 4, pos := "law.go:175", after := #[{ on := 5, ground := Ground.data }, { on := 2, ground := Ground.chain }], guard := none }) (v := ?_) rfl (by kernel_rfl) (by kernel_rfl) (by kernel_rfl) (fun _ _ _ h => h) (Or.inl ⟨by rfl, ?_⟩) fa ?_
                rotate_left 1
                · intro w hSw
                  try dsimp only at hSw
                  go_simp
                  first
                    | done
                    | with_reducible rfl
                    | rw [if_neg (by omega)]
                try simp only [Act.put, List.setIfInBounds_toArray, List.set_cons_zero, List.set_cons_succ]
                refine wpAnyH_take (i := 7) (oi := { dst := some 85, op := Op.move (Operand.tmp 15), type := 24, pos := "law.go:175", after := #[{ on := 6, ground := Ground.guard }], guard := some (6, false) }) (v := ?_) rfl (by kernel_rfl) (by kernel_rfl) (by kernel_rfl) (fun _ _ _ h => h) (Or.inl ⟨by rfl, ?_⟩) fa ?_
                rotate_left 1
                · intro w hSw
                  try dsimp only at hSw
                  go_simp
                  first
                    | done
                    | with_reducible rfl
                    | rw [if_neg (by omega)]
                try simp only [Act.put, List.setIfInBounds_toArray, List.set_cons_zero, List.set_cons_succ]
                refine wpAnyH_take (i := 8) (oi := { dst := some 86, op := Op.call { callee := Callee.builtin Builtin.len, args := #[Operand.tmp 85], argTypes := #[24] }, type := 3, pos := "law.go:175", after := #[{ on := 7, ground := Ground.data }, { on := 6, ground := Ground.guard }], guard := some (6, false) }) (v := ?_) rfl (by kernel_rfl) (by kernel_rfl) (by kernel_rfl) (fun _ _ _ h => h) (Or.inl ⟨by rfl, ?_⟩) fa ?_
                rotate_left 1
                · intro w hSw
                  try dsimp only at hSw
                  go_simp
                  first
                    | done
                    | with_reducible rfl
                    | rw [if_neg (by omega)]
                try simp only [Act.put, List.setIfInBounds_toArray, List.set_cons_zero, List.set_cons_succ]
                refine wpAnyH_take (i := 9) (oi := { dst := some 87, op := Op.move (Operand.tmp 7), type := 3, pos := "law.go:175", after := #[{ on := 6, ground := Ground.guard }], guard := some (6, false) }) (v := ?_) rfl (by kernel_rfl) (by kernel_rfl) (by kernel_rfl) (fun _ _ _ h => h) (Or.inl ⟨by rfl, ?_⟩) fa ?_
                rotate_left 1
                · intro w hSw
                  try dsimp only at hSw
                  go_simp
                  first
                    | done
                    | with_reducible rfl
                    | rw [if_neg (by omega)]
                try simp only [Act.put, List.setIfInBounds_toArray, List.set_cons_zero, List.set_cons_succ]
                refine wpAnyH_take (i := 10) (oi := { dst := some 88, op := Op.move (Operand.tmp 8), type := 3, pos := "law.go:175", after := #[{ on := 6, ground := Ground.guard }], guard := some (6, false) }) (v := ?_) rfl (by kernel_rfl) (by kernel_rfl) (by kernel_rfl) (fun _ _ _ h => h) (Or.inl ⟨by rfl, ?_⟩) fa ?_
                rotate_left 1
                · intro w hSw
                  try dsimp only at hSw
                  go_simp
                  first
                    | done
                    | with_reducible rfl
                    | rw [if_neg (by omega)]
                try simp only [Act.put, List.setIfInBounds_toArray, List.set_cons_zero, List.set_cons_succ]
                refine wpAnyH_take (i := 11) (oi := { dst := some 89, op := Op.binOp BinOp.add 3 (Operand.tmp 87) (Operand.tmp 88) 3, type := 3, pos := "law.go:175", after := #[{ on := 9, ground := Ground.data }, { on := 10, ground := Ground.data }, { on := 6, ground := Ground.guard }], guard := some (6, false) }) (v := ?_) rfl (by kernel_rfl) (by kernel_rfl) (by kernel_rfl) (fun _ _ _ h => h) (Or.inl ⟨by rfl, ?_⟩) fa ?_
                rotate_left 1
                · intro w hSw
                  try dsimp only at hSw
                  go_simp
                  first
                    | done
                    | with_reducible rfl
                    | rw [if_neg (by omega)]
                try simp only [Act.put, List.setIfInBounds_toArray, List.set_cons_zero, List.set_cons_succ]
                refine wpAnyH_take (i := 12) (oi := { dst := some 90, op := Op.binOp BinOp.add 3 (Operand.tmp 89) (Operand.const (Value.int IntKind.i64 1)) 3, type := 3, pos := "law.go:175", after := #[{ on := 11, ground := Ground.data }, { on := 6, ground := Ground.guard }], guard := some (6, false) }) (v := ?_) rfl (by kernel_rfl) (by kernel_rfl) (by kernel_rfl) (fun _ _ _ h => h) (Or.inl ⟨by rfl, ?_⟩) fa ?_
                rotate_left 1
                · intro w hSw
                  try dsimp only at hSw
                  go_simp
                  first
                    | done
                    | with_reducible rfl
                    | rw [if_neg (by omega)]
                try simp only [Act.put, List.setIfInBounds_toArray, List.set_cons_zero, List.set_cons_succ]
                refine wpAnyH_take (i := 13) (oi := { dst := some 91, op := Op.binOp BinOp.neq 3 (Operand.tmp 86) (Operand.tmp 90) 3, type := 4, pos := "law.go:175", after := #[{ on := 8, ground := Ground.data }, { on := 12, ground := Ground.data }, { on := 6, ground := Ground.guard }], guard := some (6, false) }) (v := .bool false) rfl (by kernel_rfl) (by kernel_rfl) (by kernel_rfl) (fun _ _ _ h => h) (Or.inl ⟨by rfl, ?_⟩) fa ?_
                · intro w hSw
                  go_simp
                  try (rw [q16, q17])
                try simp only [Act.put, List.setIfInBounds_toArray, List.set_cons_zero, List.set_cons_succ]
                refine wpAnyH_take (i := 14) (oi := { dst := some 92, op := Op.pick (Operand.tmp 84) (Operand.const (Value.bool true)) (Operand.tmp 91), type := 4, pos := "law.go:175", after := #[{ on := 6, ground := Ground.data }, { on := 13, ground := Ground.data }], guard := none }) (v := ?_) rfl (by kernel_rfl) (by kernel_rfl) (by kernel_rfl) (fun _ _ _ h => h) (Or.inl ⟨by rfl, ?_⟩) fa ?_
                rotate_left 1
                · intro w hSw
                  try dsimp only at hSw
                  go_simp
                  first
                    | done
                    | with_reducible rfl
                    | rw [if_neg (by omega)]
                try simp only [Act.put, List.setIfInBounds_toArray, List.set_cons_zero, List.set_cons_succ]
                refine wpAnyH_take (i := 15) (oi := { dst := some 93, op := Op.move (Operand.tmp 92), type := 4, pos := "law.go:175", after := #[{ on := 14, ground := Ground.data }, { on := 6, ground := Ground.chain }], guard := none }) (v := ?_) rfl (by kernel_rfl) (by kernel_rfl) (by kernel_rfl) (fun _ _ _ h => h) (Or.inl ⟨by rfl, ?_⟩) fa ?_
                rotate_left 1
                · intro w hSw
                  try dsimp only at hSw
                  go_simp
                  first
                    | done
                    | with_reducible rfl
                    | rw [if_neg (by omega)]
                try simp only [Act.put, List.setIfInBounds_toArray, List.set_cons_zero, List.set_cons_succ]
                refine wpAnyH_take (i := 16) (oi := { dst := some 94, op := Op.move (Operand.tmp 15), type := 24, pos := "law.go:175", after := #[{ on := 15, ground := Ground.guard }], guard := some (15, false) }) (v := ?_) rfl (by kernel_rfl) (by kernel_rfl) (by kernel_rfl) (fun _ _ _ h => h) (Or.inl ⟨by rfl, ?_⟩) fa ?_
                rotate_left 1
                · intro w hSw
                  try dsimp only at hSw
                  go_simp
                  first
                    | done
                    | with_reducible rfl
                    | rw [if_neg (by omega)]
                try simp only [Act.put, List.setIfInBounds_toArray, List.set_cons_zero, List.set_cons_succ]
                refine wpAnyH_take (i := 17) (oi := { dst := some 95, op := Op.move (Operand.tmp 7), type := 3, pos := "law.go:175", after := #[{ on := 15, ground := Ground.guard }], guard := some (15, false) }) (v := ?_) rfl (by kernel_rfl) (by kernel_rfl) (by kernel_rfl) (fun _ _ _ h => h) (Or.inl ⟨by rfl, ?_⟩) fa ?_
                rotate_left 1
                · intro w hSw
                  try dsimp only at hSw
                  go_simp
                  first
                    | done
                    | with_reducible rfl
                    | rw [if_neg (by omega)]
                try simp only [Act.put, List.setIfInBounds_toArray, List.set_cons_zero, List.set_cons_succ]
                refine wpAnyH_take (i := 18) (oi := { dst := some 96, op := Op.indexAddr 24 (Operand.tmp 94) (Operand.tmp 95), type := 0, pos := "law.go:175", after := #[{ on := 16, ground := Ground.data }, { on := 17, ground := Ground.data }, { on := 15, ground := Ground.guard }], guard := some (15, false) }) (v := .pointer (some ⟨bA, oA + i, none⟩)) rfl (by kernel_rfl) (by kernel_rfl) (by kernel_rfl) (fun _ _ _ h => h) (Or.inl ⟨by rfl, ?_⟩) fa ?_
                · intro w hSw
                  go_simp
                  first
                    | done
                    | rfl
                    | (intro q; omega)
                    | simp
                    | (simp; omega)
                try simp only [Act.put, List.setIfInBounds_toArray, List.set_cons_zero, List.set_cons_succ]
                refine wpAnyH_take (i := 19) (oi := { dst := some 97, op := Op.load 23 (Operand.tmp 96), type := 23, pos := "law.go:175", after := #[{ on := 18, ground := Ground.data }, { on := 15, ground := Ground.guard }], guard := some (15, false) }) (v := ?_) rfl (by kernel_rfl) (by kernel_rfl) (by kernel_rfl) (fun _ _ _ h => h) (Or.inl ⟨by rfl, ?_⟩) fa ?_
                rotate_left 1
                · intro w hSw
                  try dsimp only at hSw
                  go_simp
                  first
                    | done
                    | with_reducible rfl
                    | rw [if_neg (by omega)]
                try simp only [Act.put, List.setIfInBounds_toArray, List.set_cons_zero, List.set_cons_succ]
                refine wpAnyH_take (i := 20) (oi := { dst := some 98, op := Op.move (Operand.tmp 13), type := 24, pos := "law.go:175", after := #[{ on := 15, ground := Ground.guard }], guard := some (15, false) }) (v := ?_) rfl (by kernel_rfl) (by kernel_rfl) (by kernel_rfl) (fun _ _ _ h => h) (Or.inl ⟨by rfl, ?_⟩) fa ?_
                rotate_left 1
                · intro w hSw
                  try dsimp only at hSw
                  go_simp
                  first
                    | done
                    | with_reducible rfl
                    | rw [if_neg (by omega)]
                try simp only [Act.put, List.setIfInBounds_toArray, List.set_cons_zero, List.set_cons_succ]
                refine wpAnyH_take (i := 21) (oi := { dst := some 99, op := Op.move (Operand.tmp 7), type := 3, pos := "law.go:175", after := #[{ on := 15, ground := Ground.guard }], guard := some (15, false) }) (v := ?_) rfl (by kernel_rfl) (by kernel_rfl) (by kernel_rfl) (fun _ _ _ h => h) (Or.inl ⟨by rfl, ?_⟩) fa ?_
                rotate_left 1
                · intro w hSw
                  try dsimp only at hSw
                  go_simp
                  first
                    | done
                    | with_reducible rfl
                    | rw [if_neg (by omega)]
                try simp only [Act.put, List.setIfInBounds_toArray, List.set_cons_zero, List.set_cons_succ]
                refine wpAnyH_take (i := 22) (oi := { dst := some 100, op := Op.move (Operand.tmp 9), type := 3, pos := "law.go:175", after := #[{ on := 15, ground := Ground.guard }], guard := some (15, false) }) (v := ?_) rfl (by kernel_rfl) (by kernel_rfl) (by kernel_rfl) (fun _ _ _ h => h) (Or.inl ⟨by rfl, ?_⟩) fa ?_
                rotate_left 1
                · intro w hSw
                  try dsimp only at hSw
                  go_simp
                  first
                    | done
                    | with_reducible rfl
                    | rw [if_neg (by omega)]
                try simp only [Act.put, List.setIfInBounds_toArray, List.set_cons_zero, List.set_cons_succ]
                refine wpAnyH_take (i := 23) (oi := { dst := some 101, op := Op.move (Operand.tmp 8), type := 3, pos := "law.go:175", after := #[{ on := 15, ground := Ground.guard }], guard := some (15, false) }) (v := ?_) rfl (by kernel_rfl) (by kernel_rfl) (by kernel_rfl) (fun _ _ _ h => h) (Or.inl ⟨by rfl, ?_⟩) fa ?_
                rotate_left 1
                · intro w hSw
                  try dsimp only at hSw
                  go_simp
                  first
                    | done
                    | with_reducible rfl
                    | rw [if_neg (by omega)]
                try simp only [Act.put, List.setIfInBounds_toArray, List.set_cons_zero, List.set_cons_succ]
                refine wpAnyH_take (i := 24) (oi := { dst := some 102, op := Op.binOp BinOp.sub 3 (Operand.tmp 100) (Operand.tmp 101) 3, type := 3, pos := "law.go:175", after := #[{ on := 22, ground := Ground.data }, { on := 23, ground := Ground.data }, { on := 15, ground := Ground.guard }], guard := some (15, false) }) (v := ?_) rfl (by kernel_rfl) (by kernel_rfl) (by kernel_rfl) (fun _ _ _ h => h) (Or.inl ⟨by rfl, ?_⟩) fa ?_
                rotate_left 1
                · intro w hSw
                  try dsimp only at hSw
                  go_simp
                  first
                    | done
                    | with_reducible rfl
                    | rw [if_neg (by omega)]
                try simp only [Act.put, List.setIfInBounds_toArray, List.set_cons_zero, List.set_cons_succ]
                refine wpAnyH_take (i := 25) (oi := { dst := some 103, op := Op.slice 24 (Operand.tmp 98) (some (Operand.tmp 99)) (some (Operand.tmp 102)) none, type := 24, pos := "law.go:175", after := #[{ on := 20, ground := Ground.data }, { on := 21, ground := Ground.data }, { on := 24, ground := Ground.data }, { on := 15, ground := Ground.guard }], guard := some (15, false) }) (v := .slice L1 (kb - i) (cl - i)) rfl (by kernel_rfl) (by kernel_rfl) (by kernel_rfl) (fun _ _ _ h => h) (Or.inl ⟨by rfl, ?_⟩) fa ?_
                · intro w hSw
                  go_simp
                  rw [HL1.out]
                  rfl
                try simp only [Act.put, List.setIfInBounds_toArray, List.set_cons_zero, List.set_cons_succ]
                refine wpAnyH_ready (rs := [26]) (by kernel_rfl) (by simp) ?_
                refine AllReadyH.cons (o := { dst := some 104, op := Op.call { callee := Callee.value (Operand.func 22), args := #[Operand.const (Value.int IntKind.i64 4), Operand.tmp 103], argTypes := #[3, 24] }, type := 23, pos := "law.go:175", after := #[{ on := 25, ground := Ground.data }, { on := 15, ground := Ground.chain }, { on := 15, ground := Ground.guard }], guard := some (15, false) }) rfl (fun K hK => ?_) AllReadyH.nil
                go_simp
                go_at_call 22
                refine (HMD.out _ _ _ (HJ1.out _ (unhide HLa))).mono ?_
                rintro e w502 ⟨rfl, hbb⟩
                have HB5 := hide ((unhide HB4).trans (hbb.mono (unhide HB4).size))
                have HIOb := hide ((unhide HIOa).below hbb)
                have HLb := hide ((unhide HLa).below hbb)
                have fb := hide (cell_down hbb (unhide fa))
                clear hbb
                try dsimp only
                refine hK.out _ _ fb (fun _ => ?_)
                clear hK K
                try simp only [Act.put, List.setIfInBounds_toArray, List.set_cons_zero, List.set_cons_succ]
                refine wpAnyH_take (i := 27) (oi := { dst := some 105, op := Op.binOp BinOp.neq 23 (Operand.tmp 97) (Operand.tmp 104) 23, type := 4, pos := "law.go:175", after := #[{ on := 19, ground := Ground.data }, { on := 26, ground := Ground.data }, { on := 15, ground := Ground.guard }], guard := some (15, false) }) (v := .bool false) rfl (by kernel_rfl) (by kernel_rfl) (by kernel_rfl) (fun _ _ _ h => h) (Or.inl ⟨by rfl, ?_⟩) fb ?_
                · intro w hSw
                  go_simp
                  first
                    | done
                    | rfl
                    | (intro q; omega)
                    | simp
                    | (simp; omega)
                try simp only [Act.put, List.setIfInBounds_toArray, List.set_cons_zero, List.set_cons_succ]
                refine wpAnyH_take (i := 28) (oi := { dst := some 106, op := Op.pick (Operand.tmp 93) (Operand.const (Value.bool true)) (Operand.tmp 105), type := 4, pos := "law.go:175", after := #[{ on := 15, ground := Ground.data }, { on := 27, ground := Ground.data }], guard := none }) (v := ?_) rfl (by kernel_rfl) (by kernel_rfl) (by kernel_rfl) (fun _ _ _ h => h) (Or.inl ⟨by rfl, ?_⟩) fb ?_
                rotate_left 1
                · intro w hSw
                  try dsimp only at hSw
                  go_simp
                  first
                    | done
                    | with_reducible rfl
                    | rw [if_neg (by omega)]
                try simp only [Act.put, List.setIfInBounds_toArray, List.set_cons_zero, List.set_cons_succ]
                refine wpAnyH_done (by kernel_rfl) ?_ _
                refine NoPanic.normal ?_
                go_wp2_with fail
                have HBd2 := hide (below_drew (unhide HB5))
                have HIOd2 := hide (InC.drew (unhide HIOb))
                have HLd2 := hide (InC.drew (unhide HLb))
                refine wp_region_noPanic ?_
                refine wp_region_held_drew (S := fun W => True) (by kernel_rfl) trivial (fun _ => ?_)
                generalize w502.drew = wd2 at *
                try simp only [Act.put, List.setIfInBounds_toArray, List.set_cons_zero, List.set_cons_succ]
                refine wpAnyH_take (i := 0) (oi := { dst := some 107, op := Op.move (Operand.tmp 15), type := 24, pos := "law.go:178", after := #[], guard := none }) (v := ?_) rfl (by kernel_rfl) (by kernel_rfl) (by kernel_rfl) (fun _ _ _ h => h) (Or.inl ⟨by rfl, ?_⟩) trivial ?_
                rotate_left 1
                · intro w hSw
                  try dsimp only at hSw
                  go_simp
                  first
                    | done
                    | with_reducible rfl
                    | rw [if_neg (by omega)]
                try simp only [Act.put, List.setIfInBounds_toArray, List.set_cons_zero, List.set_cons_succ]
                refine wpAnyH_take (i := 1) (oi := { dst := some 108, op := Op.move (Operand.tmp 7), type := 3, pos := "law.go:178", after := #[], guard := none }) (v := ?_) rfl (by kernel_rfl) (by kernel_rfl) (by kernel_rfl) (fun _ _ _ h => h) (Or.inl ⟨by rfl, ?_⟩) trivial ?_
                rotate_left 1
                · intro w hSw
                  try dsimp only at hSw
                  go_simp
                  first
                    | done
                    | with_reducible rfl
                    | rw [if_neg (by omega)]
                try simp only [Act.put, List.setIfInBounds_toArray, List.set_cons_zero, List.set_cons_succ]
                refine wpAnyH_take (i := 2) (oi := { dst := some 109, op := Op.slice 24 (Operand.tmp 107) none (some (Operand.tmp 108)) none, type := 24, pos := "law.go:178", after := #[{ on := 0, ground := Ground.data }, { on := 1, ground := Ground.data }], guard := none }) (v := .slice A0 i d) rfl (by kernel_rfl) (by kernel_rfl) (by kernel_rfl) (fun _ _ _ h => h) (Or.inl ⟨by rfl, ?_⟩) trivial ?_
                · intro w hSw
                  go_simp
                  rw [HA0.out]
                  rfl
                try simp only [Act.put, List.setIfInBounds_toArray, List.set_cons_zero, List.set_cons_succ]
                refine wpAnyH_take (i := 3) (oi := { dst := some 110, op := Op.move (Operand.tmp 13), type := 24, pos := "law.go:178", after := #[], guard := none }) (v := ?_) rfl (by kernel_rfl) (by kernel_rfl) (by kernel_rfl) (fun _ _ _ h => h) (Or.inl ⟨by rfl, ?_⟩) trivial ?_
                rotate_left 1
                · intro w hSw
                  try dsimp only at hSw
                  go_simp
                  first
                    | done
                    | with_reducible rfl
                    | rw [if_neg (by omega)]
                try simp only [Act.put, List.setIfInBounds_toArray, List.set_cons_zero, List.set_cons_succ]
                refine wpAnyH_take (i := 4) (oi := { dst := some 111, op := Op.move (Operand.tmp 7), type := 3, pos := "law.go:178", after := #[], guard := none }) (v := ?_) rfl (by kernel_rfl) (by kernel_rfl) (by kernel_rfl) (fun _ _ _ h => h) (Or.inl ⟨by rfl, ?_⟩) trivial ?_
                rotate_left 1
                · intro w hSw
                  try dsimp only at hSw
                  go_simp
                  first
                    | done
                    | with_reducible rfl
                    | rw [if_neg (by omega)]
                try simp only [Act.put, List.setIfInBounds_toArray, List.set_cons_zero, List.set_cons_succ]
                refine wpAnyH_take (i := 5) (oi := { dst := some 112, op := Op.slice 24 (Operand.tmp 110) none (some (Operand.tmp 111)) none, type := 24, pos := "law.go:178", after := #[{ on := 3, ground := Ground.data }, { on := 4, ground := Ground.data }], guard := none }) (v := .slice L0 i cl) rfl (by kernel_rfl) (by kernel_rfl) (by kernel_rfl) (fun _ _ _ h => h) (Or.inl ⟨by rfl, ?_⟩) trivial ?_
                · intro w hSw
                  go_simp
                  rw [HL0.out]
                  rfl
                try simp only [Act.put, List.setIfInBounds_toArray, List.set_cons_zero, List.set_cons_succ]
                refine wpAnyH_ready (rs := [6]) (by kernel_rfl) (by simp) ?_
                refine AllReadyH.cons (o := { dst := some 113, op := Op.call { callee := Callee.value (Operand.func 18), args := #[Operand.tmp 109, Operand.tmp 112], argTypes := #[24, 24] }, type := 4, pos := "law.go:178", after := #[{ on := 2, ground := Ground.data }, { on := 5, ground := Ground.data }], guard := none }) rfl (fun K hK => ?_) AllReadyH.nil
                go_simp
                go_at_call 18
                refine (HF1.out _ _ _ _ _ (HI0.out _ (unhide HIOd2)) (HJ0.out _ (unhide HLd2))).mono ?_
                rintro e w503 ⟨rfl, hbc⟩
                have HB6 := hide ((unhide HBd2).trans (hbc.mono (unhide HBd2).size))
                have HIOc := hide ((unhide HIOd2).below hbc)
                have HLc := hide ((unhide HLd2).below hbc)
                clear hbc
                try dsimp only
                refine hK.out _ _ trivial (fun _ => ?_)
                clear hK K
                try simp only [Act.put, List.setIfInBounds_toArray, List.set_cons_zero, List.set_cons_succ]
                refine wpAnyH_take (i := 7) (oi := { dst := some 114, op := Op.move (Operand.tmp 113), type := 4, pos := "law.go:178", after := #[{ on := 6, ground := Ground.data }, { on := 6, ground := Ground.chain }], guard := none }) (v := ?_) rfl (by kernel_rfl) (by kernel_rfl) (by kernel_rfl) (fun _ _ _ h => h) (Or.inl ⟨by rfl, ?_⟩) trivial ?_
                rotate_left 1
                · intro w hSw
                  try dsimp only at hSw
                  go_simp
                  first
                    | done
                    | with_reducible rfl
                    | rw [if_neg (by omega)]
                try simp only [Act.put, List.setIfInBounds_toArray, List.set_cons_zero, List.set_cons_succ]
                refine wpAnyH_take (i := 8) (oi := { dst := some 115, op := Op.move (Operand.tmp 15), type := 24, pos := "law.go:178", after := #[{ on := 7, ground := Ground.guard }], guard := some (7, true) }) (v := ?_) rfl (by kernel_rfl) (by kernel_rfl) (by kernel_rfl) (fun _ _ _ h => h) (Or.inl ⟨by rfl, ?_⟩) trivial ?_
                rotate_left 1
                · intro w hSw
                  try dsimp only at hSw
                  go_simp
                  first
                    | done
                    | with_reducible rfl
                    | rw [if_neg (by omega)]
                try simp only [Act.put, List.setIfInBounds_toArray, List.set_cons_zero, List.set_cons_succ]
                refine wpAnyH_take (i := 9) (oi := { dst := some 116, op := Op.move (Operand.tmp 7), type := 3, pos := "law.go:178", after := #[{ on := 7, ground := Ground.guard }], guard := some (7, true) }) (v := ?_) rfl (by kernel_rfl) (by kernel_rfl) (by kernel_rfl) (fun _ _ _ h => h) (Or.inl ⟨by rfl, ?_⟩) trivial ?_
                rotate_left 1
                · intro w hSw
                  try dsimp only at hSw
                  go_simp
                  first
                    | done
                    | with_reducible rfl
                    | rw [if_neg (by omega)]
                try simp only [Act.put, List.setIfInBounds_toArray, List.set_cons_zero, List.set_cons_succ]
                refine wpAnyH_take (i := 10) (oi := { dst := some 117, op := Op.binOp BinOp.add 3 (Operand.tmp 116) (Operand.const (Value.int IntKind.i64 1)) 3, type := 3, pos := "law.go:178", after := #[{ on := 9, ground := Ground.data }, { on := 7, ground := Ground.guard }], guard := some (7, true) }) (v := ?_) rfl (by kernel_rfl) (by kernel_rfl) (by kernel_rfl) (fun _ _ _ h => h) (Or.inl ⟨by rfl, ?_⟩) trivial ?_
                rotate_left 1
                · intro w hSw
                  try dsimp only at hSw
                  go_simp
                  first
                    | done
                    | with_reducible rfl
                    | rw [if_neg (by omega)]
                try simp only [Act.put, List.setIfInBounds_toArray, List.set_cons_zero, List.set_cons_succ]
                refine wpAnyH_take (i := 11) (oi := { dst := some 118, op := Op.slice 24 (Operand.tmp 115) (some (Operand.tmp 117)) none none, type := 24, pos := "law.go:178", after := #[{ on := 8, ground := Ground.data }, { on := 10, ground := Ground.data }, { on := 7, ground := Ground.guard }], guard := some (7, true) }) (v := .slice A2 (i + (b + 1) - (i + 1)) (d - (i + 1))) rfl (by kernel_rfl) (by kernel_rfl) (by kernel_rfl) (fun _ _ _ h => h) (Or.inl ⟨by rfl, ?_⟩) trivial ?_
                · intro w hSw
                  go_simp
                  rw [if_pos ⟨by omega, by omega⟩, HA2.out]
                  rfl
                try simp only [Act.put, List.setIfInBounds_toArray, List.set_cons_zero, List.set_cons_succ]
                refine wpAnyH_take (i := 12) (oi := { dst := some 119, op := Op.move (Operand.tmp 13), type := 24, pos := "law.go:178", after := #[{ on := 7, ground := Ground.guard }], guard := some (7, true) }) (v := ?_) rfl (by kernel_rfl) (by kernel_rfl) (by kernel_rfl) (fun _ _ _ h => h) (Or.inl ⟨by rfl, ?_⟩) trivial ?_
                rotate_left 1
                · intro w hSw
                  try dsimp only at hSw
                  go_simp
                  first
                    | done
                    | with_reducible rfl
                    | rw [if_neg (by omega)]
                try simp only [Act.put, List.setIfInBounds_toArray, List.set_cons_zero, List.set_cons_succ]
                refine wpAnyH_take (i := 13) (oi := { dst := some 120, op := Op.move (Operand.tmp 9), type := 3, pos := "law.go:178", after := #[{ on := 7, ground := Ground.guard }], guard := some (7, true) }) (v := ?_) rfl (by kernel_rfl) (by kernel_rfl) (by kernel_rfl) (fun _ _ _ h => h) (Or.inl ⟨by rfl, ?_⟩) trivial ?_
                rotate_left 1
                · intro w hSw
                  try dsimp only at hSw
                  go_simp
                  first
                    | done
                    | with_reducible rfl
                    | rw [if_neg (by omega)]
                try simp only [Act.put, List.setIfInBounds_toArray, List.set_cons_zero, List.set_cons_succ]
                refine wpAnyH_take (i := 14) (oi := { dst := some 121, op := Op.move (Operand.tmp 8), type := 3, pos := "law.go:178", after := #[{ on := 7, ground := Ground.guard }], guard := some (7, true) }) (v := ?_) rfl (by kernel_rfl) (by kernel_rfl) (by kernel_rfl) (fun _ _ _ h => h) (Or.inl ⟨by rfl, ?_⟩) trivial ?_
                rotate_left 1
                · intro w hSw
                  try dsimp only at hSw
                  go_simp
                  first
                    | done
                    | with_reducible rfl
                    | rw [if_neg (by omega)]
                try simp only [Act.put, List.setIfInBounds_toArray, List.set_cons_zero, List.set_cons_succ]
                refine wpAnyH_take (i := 15) (oi := { dst := some 122, op := Op.binOp BinOp.sub 3 (Operand.tmp 120) (Operand.tmp 121) 3, type := 3, pos := "law.go:178", after := #[{ on := 13, ground := Ground.data }, { on := 14, ground := Ground.data }, { on := 7, ground := Ground.guard }], guard := some (7, true) }) (v := ?_) rfl (by kernel_rfl) (by kernel_rfl) (by kernel_rfl) (fun _ _ _ h => h) (Or.inl ⟨by rfl, ?_⟩) trivial ?_
                rotate_left 1
                · intro w hSw
                  try dsimp only at hSw
                  go_simp
                  first
                    | done
                    | with_reducible rfl
                    | rw [if_neg (by omega)]
                try simp only [Act.put, List.setIfInBounds_toArray, List.set_cons_zero, List.set_cons_succ]
                refine wpAnyH_take (i := 16) (oi := { dst := some 123, op := Op.slice 24 (Operand.tmp 119) (some (Operand.tmp 122)) none none, type := 24, pos := "law.go:178", after := #[{ on := 12, ground := Ground.data }, { on := 15, ground := Ground.data }, { on := 7, ground := Ground.guard }], guard := some (7, true) }) (v := .slice L2 (q - kb) (cl - kb)) rfl (by kernel_rfl) (by kernel_rfl) (by kernel_rfl) (fun _ _ _ h => h) (Or.inl ⟨by rfl, ?_⟩) trivial ?_
                · intro w hSw
                  go_simp
                  try simp only [q15]
                  first
                    | rw [if_pos ⟨by omega, by omega⟩, HL2.out]
                    | rw [HL2.out, ← q8]
                  try rw [Int.toNat_natCast]
                  rfl
                try simp only [Act.put, List.setIfInBounds_toArray, List.set_cons_zero, List.set_cons_succ]
                refine wpAnyH_ready (rs := [17]) (by kernel_rfl) (by simp) ?_
                refine AllReadyH.cons (o := { dst := some 124, op := Op.call { callee := Callee.value (Operand.func 18), args := #[Operand.tmp 118, Operand.tmp 123], argTypes := #[24, 24] }, type := 4, pos := "law.go:178", after := #[{ on := 11, ground := Ground.data }, { on := 16, ground := Ground.data }, { on := 7, ground := Ground.chain }, { on := 7, ground := Ground.guard }], guard := some (7, true) }) rfl (fun K hK => ?_) AllReadyH.nil
                go_simp
                go_at_call 18
                refine (HF2.out _ _ _ _ _ _ _ (by omega) (by omega) (HI2.out _ (unhide HIOc)) (HJ2.out _ (unhide HLc))).mono ?_
                rintro e w504 ⟨rfl, hbd⟩
                have HB7 := hide ((unhide HB6).trans (hbd.mono (unhide HB6).size))
                clear hbd
                try dsimp only
                refine hK.out _ _ trivial (fun _ => ?_)
                clear hK K
                try simp only [Act.put, List.setIfInBounds_toArray, List.set_cons_zero, List.set_cons_succ]
                refine wpAnyH_take (i := 18) (oi := { dst := some 125, op := Op.pick (Operand.tmp 114) (Operand.tmp 124) (Operand.const (Value.bool false)), type := 4, pos := "law.go:178", after := #[{ on := 7, ground := Ground.data }, { on := 17, ground := Ground.data }], guard := none }) (v := ?_) rfl (by kernel_rfl) (by kernel_rfl) (by kernel_rfl) (fun _ _ _ h => h) (Or.inl ⟨by rfl, ?_⟩) trivial ?_
                rotate_left 1
                · intro w hSw
                  try dsimp only at hSw
                  go_simp
                  first
                    | done
                    | with_reducible rfl
                    | rw [if_neg (by omega)]
                try simp only [Act.put, List.setIfInBounds_toArray, List.set_cons_zero, List.set_cons_succ]
                refine wpAnyH_take (i := 19) (oi := { dst := some 6, op := Op.assign (Operand.tmp 125), type := 4, pos := "law.go:178", after := #[{ on := 18, ground := Ground.data }, { on := 17, ground := Ground.chain }, { on := 0, ground := Ground.phase }, { on := 1, ground := Ground.phase }, { on := 2, ground := Ground.phase }, { on := 3, ground := Ground.phase }, { on := 4, ground := Ground.phase }, { on := 5, ground := Ground.phase }, { on := 6, ground := Ground.phase }, { on := 7, ground := Ground.phase }, { on := 8, ground := Ground.phase }, { on := 9, ground := Ground.phase }, { on := 10, ground := Ground.phase }, { on := 11, ground := Ground.phase }, { on := 12, ground := Ground.phase }, { on := 13, ground := Ground.phase }, { on := 14, ground := Ground.phase }, { on := 15, ground := Ground.phase }, { on := 16, ground := Ground.phase }, { on := 17, ground := Ground.phase }, { on := 18, ground := Ground.phase }], guard := none }) (v := ?_) rfl (by kernel_rfl) (by kernel_rfl) (by kernel_rfl) (fun _ _ _ h => h) (Or.inl ⟨by rfl, ?_⟩) trivial ?_
                rotate_left 1
                · intro w hSw
                  try dsimp only at hSw
                  go_simp
                  first
                    | done
                    | with_reducible rfl
                    | rw [if_neg (by omega)]
                try simp only [Act.put, List.setIfInBounds_toArray, List.set_cons_zero, List.set_cons_succ]
                refine wpAnyH_done (by kernel_rfl) ?_ _
                refine NoPanic.normal ?_
                go_wp2_with fail
                go_ret
                exact ⟨rfl, unhide HB7⟩
              · rw [if_neg hc] at hout hno ⊢
                obtain rfl : mo = 0 := hno rfl
                have hcI : (q : Int) < (i : Int) + (b : Int) := by omega
                clear hout hno HQ HMID HE1 HE2
                simp only [Option.isSome_none]
                go_wp2_with fail
                refine (HAW.out _).mono ?_
                rintro e w4 ⟨rfl, hba⟩
                have HB4 := hide ((unhide HB3).trans (hba.mono (unhide HB3).size))
                clear hba
                go_wp2_with fail
                go_ret
                exact ⟨rfl, unhide HB4⟩

theorem patternSplits_any (n m s : Int) (hn0 : 0 ≤ n) (hn1 : n ≤ 255) (hm0 : 0 ≤ m) (hm1 : m ≤ 255) (hs0 : 0 ≤ s) (hs1 : s ≤ 255) (w : World) :
    Calls Tryz.prog 7 #[.int .u8 n, .int .u8 m, .int .u8 s] w fun e w' => e = .returned (.bool true) ∧ Below w.heap.size w w' :=
  patternSplits_core n m s hn0 hn1 hm0 hm1 hs0 hs1 (n % 5).toNat (m % 5).toNat (s % 12).toNat (by omega) (by omega) (by omega) w

end Go.Proofs.YtdifpemohdnolaaGreat
