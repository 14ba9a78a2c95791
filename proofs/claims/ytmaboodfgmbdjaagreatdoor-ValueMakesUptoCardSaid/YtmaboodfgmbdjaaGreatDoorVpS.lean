/- value.Sort: the strings of a list in ascending order, each once. Conditions: at most 1048576 strings of at most 2^48 bytes. -/
import Derived.Test.YtmaboodfgmbdjaaGreatDoorVpA
import Derived.Test.YtmaboodfgmbdjaaGreatDoorVsD
namespace Go.Proofs.YtmaboodfgmbdjaaGreatDoor
open Go.RowKit VM

theorem le_le {a b : ByteArray} (ha : valB 32 a = false) (hb : valB 32 b = false) (h : bs a ≤ bs b) : cmpM a b ≤ 0 := by
  unfold cmpM
  by_cases e : a = b
  · rw [if_pos e]; exact Int.le_refl 0
  · rw [if_neg e, if_neg (by rw [ha]; simp), if_neg (by rw [hb]; simp)]
    unfold lessS
    rw [ByteArray.toList_eq, ByteArray.toList_eq, Go.Proofs.bytesLess_eq]
    rw [if_pos]
    · decide
    · rw [decide_eq_true_eq]
      exact Decidable.byContradiction fun q => e (bs_inj (List.le_antisymm h (List.not_lt.1 q)))
theorem lt_inv {a b : ByteArray} (ha : valB 32 a = false) (hb : valB 32 b = true) : cmpM a b ≤ 0 := by
  have e : a ≠ b := fun q => by subst q; rw [ha] at hb; cases hb
  unfold cmpM
  rw [if_neg e, if_neg (by rw [ha]; simp), if_pos hb]; decide
theorem parts_sorted {xs ys : List ByteArray} (hx : ∀ s ∈ xs, valB 32 s = false) (hy : ∀ s ∈ ys, valB 32 s = true) (h1 : xs.Pairwise fun a b => bs a ≤ bs b) (h2 : ys.Pairwise fun a b => cmpM a b ≤ 0) : (xs ++ ys).Pairwise fun a b => cmpM a b ≤ 0 := by
  refine List.pairwise_append.2 ⟨?_, h2, fun a ha b hb => lt_inv (hx a ha) (hy b hb)⟩
  refine List.Pairwise.imp_of_mem (fun {a b} ha hb q => le_le (hx a ha) (hx b hb) q) h1
set_option linter.unusedSimpArgs false in
set_option maxRecDepth 100000 in
set_option maxHeartbeats 6400000 in
theorem psort_any (ps : List ByteArray) (A : Option Addr) (n c : Nat) (w : World) (hn : n = ps.length) (hn1 : n ≤ 1048576) (hs : ∀ s ∈ ps, s.size ≤ 281474976710656) (hr : InC w A (ps.map Value.string)) :
    Calls Tryz.prog 48 #[.slice A n c] w fun e w' => ∃ B cb L, e = .returned (.slice B L cb) ∧ L = (sortM ps).length ∧ w'.ownsRow w.heap.size 27 1 (.slice B L cb) L ((sortM ps).map Value.string) ∧ Below w.heap.size w w' := by
  have HS := Lib.hid hs
  have HR := hide hr
  have HN := Lib.hid hn
  obtain ⟨i0, hi0, hiz0, hiz1, hiz2⟩ := info_parts val_info
  clear hs hr hn
  go_enter Tryz.func48, Tryz.ntmps48
  go_wp2_with fail
  go_loopw [3, 4, 9] (fun iv vv kv wr => ∃ (j p q : Nat) (xs ys : List ByteArray), kv = .int .i64 j ∧ j ≤ n ∧ p + q = j ∧ Hid (wr.ownsRow w.heap.size 27 1 iv p (xs.map Value.string)) ∧ Hid (wr.ownsRow w.heap.size 27 1 vv q (ys.map Value.string)) ∧ Hid (∀ k, iv.ownBlock = some k → vv.ownBlock ≠ some k) ∧ Hid (∀ s ∈ xs, valB 32 s = false) ∧ Hid (∀ s ∈ ys, valB 32 s = true) ∧ Hid (∀ u, u ∈ ps.take j ↔ u ∈ xs ∨ u ∈ ys) ∧ Hid (Below w.heap.size w wr)) (fun _ _ kv _ => n - (intOf kv).toNat)
  case atStart => exact ⟨0, 0, 0, [], [], rfl, by omega, rfl, World.ownsRow_nil _ _ _ _, World.ownsRow_nil _ _ _ _, fun k h => by simp [Value.ownBlock] at h, fun s h => (by cases h), fun s h => (by cases h), fun u => by simp, Below.refl _ _⟩
  case round =>
    obtain ⟨j, p, q, xs, ys, rfl, hj, hpq, hO, hP, hD, hX, hY, hM, hB⟩ := hrel
    obtain ⟨A3, c3, rfl⟩ := owns_form hO.out
    obtain ⟨A4, c4, rfl⟩ := owns_form hP.out
    by_cases hjn : j < n
    · have gj : decide ((j : Int) < (n : Int)) = true := decide_eq_true (by omega)
      obtain ⟨u, hu⟩ : ∃ u, ps[j]? = some u := ⟨ps[j]'(by have := HN.out; omega), List.getElem?_eq_getElem _⟩
      have hus := HS.out u (List.mem_of_getElem? hu)
      have HUM : Hid (∀ x, x ∈ ps.take (j + 1) ↔ x ∈ ps.take j ∨ x = u) := Lib.hid fun x => by rw [List.take_add_one, hu]; simp
      obtain ⟨b5, o5, hA1, hb5, hc5⟩ := at1s ((unhide HR).below hB.out) (i := j) (u := .string u) (by rw [List.getElem?_map, hu]; rfl)
      subst hA1
      have HV := Lib.hid (fun w => valid_any u hus w)
      clear hu
      generalize wr = w2 at *
      go_wp2_with fail
      refine (HV.out _).mono ?_
      rintro e w3 ⟨rfl, hb3⟩
      have HO3 := hide (owns_below hO.out hb3)
      have HP3 := hide (owns_below hP.out hb3)
      have HB3 := hide (hB.out.trans (hb3.mono hB.out.size))
      clear hb3 hO hP hB hc5 hb5 HV
      have HO4 := hide ((unhide HO3).alloc (.cells #[.string u] 27))
      have HP4 := hide ((unhide HP3).alloc (.cells #[.string u] 27))
      have HB4 := hide ((unhide HB3).alloc (unhide HB3).size (.cells #[.string u] 27))
      cases hz : valB 32 u with
      | true =>
        have HZ := Lib.hid hz
        clear hz
        go_wp2_with (at_builtin; refine wpList_app _ rfl _ _ 22 rfl w.heap.size 27 i0 _ 1 16 Tryz.underlying22 hi0 hiz0 hiz1 hiz2 rfl (by decide) _ q (ys.map Value.string) rfl (unhide HP4) (some ⟨w3.heap.size, 0, none⟩) 1 1 [.string u] rfl rfl (new_in w3 27 #[.string u]) (one_str u) (by unfold maxLen; omega) (by omega) (unhide HB4).size ?_; intro v5 w5 hown5 hgrow5 hblk5)
        have HB5 := hide (below_app (unhide HB4) (unhide HP4) hgrow5)
        have HO5 := hide (owns_other (unhide HO4) hgrow5 (fun k hk e => hD.out k hk e))
        have HP5 : Hid (w5.ownsRow w.heap.size 27 1 v5 (q + 1) ((ys ++ [u]).map Value.string)) := hide (by rw [List.map_append]; exact hown5)
        have HD5 : Hid (∀ k, (Value.slice A3 p c3).ownBlock = some k → v5.ownBlock ≠ some k) := Lib.hid (fun k hk e => by
          rcases hblk5 with h | h
          · rw [h] at e; exact hD.out k hk e
          · rw [h] at e
            have h2 := ((unhide HO4).lt k hk).2
            have h3 := Option.some.inj e
            omega)
        have HY5 : Hid (∀ s ∈ ys ++ [u], valB 32 s = true) := Lib.hid (fun s hs => by
          rcases List.mem_append.1 hs with hs | hs
          · exact hY.out s hs
          · rw [List.mem_singleton.1 hs]; exact HZ.out)
        have HM5 : Hid (∀ x, x ∈ ps.take (j + 1) ↔ x ∈ xs ∨ x ∈ ys ++ [u]) := Lib.hid (fun x => by
          rw [HUM.out, hM.out, List.mem_append, List.mem_singleton, or_assoc])
        clear hown5 hgrow5 hblk5
        go_wp2_with fail
        go_roundw
        case rel => exact ⟨j + 1, p, q + 1, xs, ys ++ [u], by go_num, by omega, by omega, unhide HO5, unhide HP5, HD5.out, hX.out, HY5.out, HM5.out, unhide HB5⟩
        case measure => simp [intOf]; omega
      | false =>
        have HZ := Lib.hid hz
        clear hz
        go_wp2_with (at_builtin; refine wpList_app _ rfl _ _ 22 rfl w.heap.size 27 i0 _ 1 16 Tryz.underlying22 hi0 hiz0 hiz1 hiz2 rfl (by decide) _ p (xs.map Value.string) rfl (unhide HO4) (some ⟨w3.heap.size, 0, none⟩) 1 1 [.string u] rfl rfl (new_in w3 27 #[.string u]) (one_str u) (by unfold maxLen; omega) (by omega) (unhide HB4).size ?_; intro v5 w5 hown5 hgrow5 hblk5)
        have HB5 := hide (below_app (unhide HB4) (unhide HO4) hgrow5)
        have HP5 := hide (owns_other (unhide HP4) hgrow5 (fun k hk e => hD.out k e hk))
        have HO5 : Hid (w5.ownsRow w.heap.size 27 1 v5 (p + 1) ((xs ++ [u]).map Value.string)) := hide (by rw [List.map_append]; exact hown5)
        have HD5 : Hid (∀ k, v5.ownBlock = some k → (Value.slice A4 q c4).ownBlock ≠ some k) := Lib.hid (fun k hk e => by
          rcases hblk5 with h | h
          · rw [h] at hk; exact hD.out k hk e
          · rw [h] at hk
            have h2 := ((unhide HP4).lt k e).2
            have h3 := Option.some.inj hk
            omega)
        have HX5 : Hid (∀ s ∈ xs ++ [u], valB 32 s = false) := Lib.hid (fun s hs => by
          rcases List.mem_append.1 hs with hs | hs
          · exact hX.out s hs
          · rw [List.mem_singleton.1 hs]; exact HZ.out)
        have HM5 : Hid (∀ x, x ∈ ps.take (j + 1) ↔ x ∈ xs ++ [u] ∨ x ∈ ys) := Lib.hid (fun x => by
          rw [HUM.out, hM.out, List.mem_append, List.mem_singleton, or_assoc, or_assoc, or_comm (a := x ∈ ys)])
        clear hown5 hgrow5 hblk5
        go_wp2_with fail
        go_roundw
        case rel => exact ⟨j + 1, p + 1, q, xs ++ [u], ys, by go_num, by omega, by omega, unhide HO5, unhide HP5, HD5.out, HX5.out, hY.out, HM5.out, unhide HB5⟩
        case measure => simp [intOf]; omega
    · have HME : Hid (∀ u, u ∈ xs ∨ u ∈ ys ↔ u ∈ ps) := Lib.hid (fun u => by
        rw [← hM.out, List.take_of_length_le (by have := HN.out; omega)])
      have hbz := hB.out.size
      go_wp2_with fail
      refine (sortS_any (.slice A3 p c3) p w.heap.size xs wr (by omega) hO.out).mono ?_
      rintro e w3 ⟨rfl, xs', hO3, hpx, hsx, hg3⟩
      have HB3 := hide (below_row hB.out hg3 (fun j hj => (hO.out.lt j hj).1))
      have HP3 := hide (owns_other hP.out hg3 (fun k hk e => hD.out k e hk))
      have HO3 := hide hO3
      have HPX := Lib.hid hpx
      have HSX := Lib.hid hsx
      clear hO3 hg3 hpx hsx hO hP hB
      go_wp2_with fail
      refine (sortF_any (.slice A4 q c4) q w.heap.size ys w3 (by omega) hY.out (unhide HP3)).mono ?_
      rintro e w4 ⟨rfl, ys', hP4, hpy, hsy, hg4⟩
      have HB4 := hide (below_row (unhide HB3) hg4 (fun j hj => ((unhide HP3).lt j hj).1))
      have HO4 := hide (owns_other (unhide HO3) hg4 (fun k hk e => hD.out k hk e))
      have HIP := hide (InC.own hP4)
      have HLP : Hid ((ys'.map Value.string).length = q * 1) := Lib.hid hP4.1
      have HZ : Hid ((xs' ++ ys').Pairwise fun a b => cmpM a b ≤ 0) := Lib.hid (parts_sorted (fun s h => hX.out s (HPX.out.mem_iff.1 h)) (fun s h => hY.out s (hpy.mem_iff.1 h)) HSX.out hsy)
      have HMZ : Hid (∀ u, u ∈ xs' ++ ys' ↔ u ∈ ps) := Lib.hid (fun u => by rw [List.mem_append, HPX.out.mem_iff, hpy.mem_iff]; exact HME.out u)
      clear hP4 hpy hsy hg4 HB3 HO3 HP3
      go_wp2_with (at_builtin; refine wpList_app _ rfl _ _ 22 rfl w.heap.size 27 i0 _ 1 16 Tryz.underlying22 hi0 hiz0 hiz1 hiz2 rfl (by decide) _ p (xs'.map Value.string) rfl (unhide HO4) A4 q c4 (ys'.map Value.string) rfl HLP.out (unhide HIP) (str_one ys') (by unfold maxLen; omega) (by omega) (unhide HB4).size ?_; intro v5 w5 hown5 hgrow5 _)
      have HB5 := hide (below_app (unhide HB4) (unhide HO4) hgrow5)
      have HO5 : Hid (w5.ownsRow w.heap.size 27 1 v5 (p + q) ((xs' ++ ys').map Value.string)) := hide (by rw [List.map_append]; exact hown5)
      clear hown5 hgrow5 HB4 HO4
      have HCC := hide (compact_any v5 (p + q) w.heap.size (xs' ++ ys') w5 (by omega) (unhide HO5))
      rw [compact_sort HZ.out HMZ.out] at HCC
      go_wp2_with fail
      refine (unhide HCC).mono ?_
      rintro e w6 ⟨B, L, cb, rfl, hL, hO6, hg6⟩
      have HB6 := hide (below_row (unhide HB5) hg6 (fun j hj => ((unhide HO5).lt j hj).1))
      have HO6 := hide hO6
      have HL := Lib.hid hL
      clear hO6 hg6 hL
      go_wp2_with fail
      go_ret
      exact ⟨B, cb, L, rfl, HL.out, unhide HO6, unhide HB6⟩

end Go.Proofs.YtmaboodfgmbdjaaGreatDoor
