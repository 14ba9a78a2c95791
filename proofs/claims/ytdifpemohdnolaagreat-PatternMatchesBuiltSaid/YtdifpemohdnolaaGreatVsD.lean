/- The reference's Set, Dot and Numbered. Conditions: at most 1048575 strings of at most 2^48 bytes. -/
import Derived.Test.YtdifpemohdnolaaGreatVsB
import Derived.Test.YtdifpemohdnolaaGreatVsC
namespace Go.Proofs.YtdifpemohdnolaaGreat
open Go.RowKit VM

theorem mkM_bad {k : UInt8} {ps : List ByteArray} {s : ByteArray} (hs : s ∈ ps) (h : valB 32 s = false) : mkM k ps = ⟨#[]⟩ := by
  unfold mkM
  rw [if_neg]
  rintro ⟨q, _⟩
  have := List.all_eq_true.1 q s hs
  rw [h] at this; cases this
theorem all_false {ps : List ByteArray} {f : ByteArray → Bool} (h : ps.all f = false) : ∃ s ∈ ps, f s = false := by
  have := List.all_eq_false.1 h
  obtain ⟨s, hs, hf⟩ := this
  exact ⟨s, hs, by simpa using hf⟩
set_option linter.unusedSimpArgs false in
set_option maxRecDepth 100000 in
set_option maxHeartbeats 3200000 in
theorem rset_any (ps : List ByteArray) (A : Option Addr) (n c : Nat) (w : World) (hn : n = ps.length) (hn1 : n ≤ 1048576) (hs : ∀ s ∈ ps, s.size ≤ 281474976710656) (hr : InC w A (ps.map Value.string)) :
    Calls Tryz.prog 30 #[.slice A n c] w fun e w' => e = .returned (.string (mkM 5 (sortM ps))) ∧ Below w.heap.size w w' := by
  have HA := Lib.hid (fun w hr => rall_any ps A n c w hn (by omega) hs hr)
  have HS := Lib.hid (fun w hr => rsort_any ps A n c w hn hn1 hs hr)
  have HR := hide hr
  cases hz : ps.all (valB 32) with
  | true =>
    have hl := sortM_len ps
    have HC := Lib.hid (fun w B cb L (hL : L = (sortM ps).length) hr => rcompound_any 5 (by decide) (sortM ps) B L cb w hL (by omega) (fun s h => List.all_eq_true.1 hz s (sortM_mem.1 h)) hr)
    rw [hz] at HA
    generalize mkM 5 (sortM ps) = m at *
    generalize sortM ps = so at *
    clear hn hs hr hz hl
    go_enter Tryz.func30, Tryz.ntmps30
    go_wp2_with fail
    refine (HA.out _ (unhide HR)).mono ?_
    rintro e w3 ⟨rfl, hb3⟩
    have HB3 := hide hb3
    have HR3 := hide ((unhide HR).below hb3)
    clear hb3
    go_wp2_with fail
    refine (HS.out _ (unhide HR3)).mono ?_
    rintro e w4 ⟨B, cb, L, rfl, hL, hO, hb4⟩
    have HB4 := hide ((unhide HB3).trans (hb4.mono (unhide HB3).size))
    have HI4 := hide (InC.own hO)
    have HL := Lib.hid hL
    clear hb4 hO hL
    go_wp2_with fail
    refine (HC.out _ _ _ _ HL.out (unhide HI4)).mono ?_
    rintro e w5 ⟨rfl, hb5⟩
    have HB5 := hide ((unhide HB4).trans (hb5.mono (unhide HB4).size))
    clear hb5
    go_wp2_with fail
    go_ret
    exact ⟨rfl, unhide HB5⟩
  | false =>
    obtain ⟨s, hs1, hs2⟩ := all_false hz
    have HM : Hid (mkM 5 (sortM ps) = ⟨#[]⟩) := Lib.hid (mkM_bad (sortM_mem.2 hs1) hs2)
    rw [hz] at HA
    clear hn hs hr hz hs1 hs2
    go_enter Tryz.func30, Tryz.ntmps30
    go_wp2_with fail
    refine (HA.out _ (unhide HR)).mono ?_
    rintro e w3 ⟨rfl, hb3⟩
    have HB3 := hide hb3
    clear hb3
    go_wp2_with fail
    go_ret
    exact ⟨by rw [HM.out]; rfl, unhide HB3⟩
/-- the encoding of a name, or the empty string -/
def nameI (z : Int) : ByteArray := if 0 ≤ z ∧ z ≤ 65535 then nameB z.toNat else ⟨#[]⟩
theorem nameB_size (n : Nat) : (nameB n).size = 3 := rfl
theorem intB_size (z : Int) : (intB z).size = 9 := by
  show (1 :: eightL z).toArray.size = 9
  rw [List.size_toArray, List.length_cons, eightL_len]
theorem nameI_size (z : Int) : (nameI z).size ≤ 3 := by
  unfold nameI
  split
  · exact Nat.le_of_eq (nameB_size _)
  · exact Nat.zero_le _
set_option linter.unusedSimpArgs false in
set_option maxRecDepth 100000 in
set_option maxHeartbeats 3200000 in
theorem rnameI_any (z : Int) (w : World) : Calls Tryz.prog 28 #[.int .i64 z] w fun e w' => e = .returned (.string (nameI z)) ∧ Below w.heap.size w w' := by
  by_cases h : 0 ≤ z ∧ z ≤ 65535
  · have h1 := rname_any z.toNat (by omega) w
    rw [show ((z.toNat : Nat) : Int) = z by omega] at h1
    unfold nameI
    rw [if_pos h]
    exact h1
  · have HM : Hid (nameI z = ⟨#[]⟩) := Lib.hid (by unfold nameI; rw [if_neg h])
    by_cases h0 : z < 0
    · clear h
      go_enter Tryz.func28, Tryz.ntmps28
      go_wp2_with fail
      go_ret
      exact ⟨by rw [HM.out]; rfl, Below.refl _ _⟩
    · have h2 : 65535 < z := by omega
      clear h
      go_enter Tryz.func28, Tryz.ntmps28
      go_wp2_with fail
      go_ret
      exact ⟨by rw [HM.out]; rfl, Below.refl _ _⟩
theorem one_str (s : ByteArray) : ∀ x ∈ [Value.string s], x.oneCell' = true := by
  intro x hx; simp at hx; subst hx; rfl
/-- a list literal of one string, and the others behind it -/
theorem lit_row (w : World) (s : ByteArray) : (w.alloc (.cells #[.string s] 23)).ownsRow w.heap.size 23 1 (.slice (some ⟨w.heap.size, 0, none⟩) 1 1) 1 [.string s] :=
  World.ownsRow_lit w _ 1 (Nat.le_refl _) (by unfold maxLen; omega) rfl
set_option linter.unusedSimpArgs false in
set_option maxRecDepth 100000 in
set_option maxHeartbeats 3200000 in
theorem rdot_any (z : Int) (ps : List ByteArray) (A : Option Addr) (n c : Nat) (w : World) (hn : n = ps.length) (hn1 : n ≤ 1048575) (hs : ∀ s ∈ ps, s.size ≤ 281474976710656) (hr : InC w A (ps.map Value.string)) :
    Calls Tryz.prog 31 #[.int .i64 z, .slice A n c] w fun e w' => e = .returned (.string (mkM 7 (nameI z :: ps))) ∧ Below w.heap.size w w' := by
  have HNM := Lib.hid (fun w => rnameI_any z w)
  have HMK := Lib.hid (fun w B cb hr => rmake_any 7 (by decide) (nameI z :: ps) B (1 + n) cb w (by rw [List.length_cons]; omega) (by omega) (fun s h => by
    rcases List.mem_cons.1 h with rfl | h
    · have := nameI_size z; omega
    · exact hs s h) hr)
  have HR := hide hr
  have HLN : Hid ((ps.map Value.string).length = n * 1) := Lib.hid (by rw [List.length_map]; omega)
  obtain ⟨i0, hi0, hiz0, hiz1, hiz2⟩ := info_parts val_info
  generalize mkM 7 (nameI z :: ps) = m at *
  generalize nameI z = s0 at *
  clear hn hs hr
  go_enter Tryz.func31, Tryz.ntmps31
  go_wp2_with fail
  refine (HNM.out _).mono ?_
  rintro e w3 ⟨rfl, hb3⟩
  have HB3 := hide hb3
  have HR3 := hide ((unhide HR).below hb3)
  have HB4 := hide (hb3.alloc hb3.size (.cells #[.string s0] 23))
  have HR4 := hide ((unhide HR3).alloc (.cells #[.string s0] 23))
  have HO4 := hide (owns_base (lit_row w3 s0) hb3.size)
  clear hb3
  go_wp2_with (at_builtin; refine wpList_app _ rfl _ _ 24 rfl w.heap.size 23 i0 _ 1 16 Tryz.underlying24 hi0 hiz0 hiz1 hiz2 rfl (by decide) _ 1 [.string s0] rfl (unhide HO4) A n c (ps.map Value.string) rfl HLN.out (unhide HR4) (str_one ps) (by unfold maxLen; omega) (by omega) (unhide HB4).size ?_; intro v5 w5 hown5 hgrow5 _)
  have HB5 := hide (below_app (unhide HB4) (unhide HO4) hgrow5)
  obtain ⟨A5, c5, rfl⟩ := owns_form hown5
  have HI5 : Hid (InC w5 A5 ((s0 :: ps).map Value.string)) := hide (InC.own hown5)
  clear hown5 hgrow5
  go_wp2_with fail
  refine (HMK.out _ _ _ (unhide HI5)).mono ?_
  rintro e w6 ⟨rfl, hb6⟩
  have HB6 := hide ((unhide HB5).trans (hb6.mono (unhide HB5).size))
  clear hb6
  go_wp2_with fail
  go_ret
  exact ⟨rfl, unhide HB6⟩
set_option linter.unusedSimpArgs false in
set_option maxRecDepth 100000 in
set_option maxHeartbeats 3200000 in
theorem rnumbered_any (k : UInt8) (hk : isComp k = true) (z : Int) (ps : List ByteArray) (A : Option Addr) (n c : Nat) (w : World) (hn : n = ps.length) (hn1 : n ≤ 1048575) (hs : ∀ s ∈ ps, s.size ≤ 281474976710656) (hr : InC w A (ps.map Value.string)) :
    Calls Tryz.prog 34 #[.int .i64 (k.toNat : Int), .int .i64 z, .slice A n c] w fun e w' => e = .returned (.string (mkM k (intB z :: ps))) ∧ Below w.heap.size w w' := by
  have HNM := Lib.hid (fun w => rint_any z w)
  have HMK := Lib.hid (fun w B cb hr => rmake_any k hk (intB z :: ps) B (1 + n) cb w (by rw [List.length_cons]; omega) (by omega) (fun s h => by
    rcases List.mem_cons.1 h with rfl | h
    · have := intB_size z; omega
    · exact hs s h) hr)
  have HR := hide hr
  have HLN : Hid ((ps.map Value.string).length = n * 1) := Lib.hid (by rw [List.length_map]; omega)
  obtain ⟨i0, hi0, hiz0, hiz1, hiz2⟩ := info_parts val_info
  generalize mkM k (intB z :: ps) = m at *
  generalize intB z = s0 at *
  clear hn hs hr hk
  go_enter Tryz.func34, Tryz.ntmps34
  go_wp2_with fail
  refine (HNM.out _).mono ?_
  rintro e w3 ⟨rfl, hb3⟩
  have HB3 := hide hb3
  have HR3 := hide ((unhide HR).below hb3)
  have HB4 := hide (hb3.alloc hb3.size (.cells #[.string s0] 23))
  have HR4 := hide ((unhide HR3).alloc (.cells #[.string s0] 23))
  have HO4 := hide (owns_base (lit_row w3 s0) hb3.size)
  clear hb3
  go_wp2_with (at_builtin; refine wpList_app _ rfl _ _ 24 rfl w.heap.size 23 i0 _ 1 16 Tryz.underlying24 hi0 hiz0 hiz1 hiz2 rfl (by decide) _ 1 [.string s0] rfl (unhide HO4) A n c (ps.map Value.string) rfl HLN.out (unhide HR4) (str_one ps) (by unfold maxLen; omega) (by omega) (unhide HB4).size ?_; intro v5 w5 hown5 hgrow5 _)
  have HB5 := hide (below_app (unhide HB4) (unhide HO4) hgrow5)
  obtain ⟨A5, c5, rfl⟩ := owns_form hown5
  have HI5 : Hid (InC w5 A5 ((s0 :: ps).map Value.string)) := hide (InC.own hown5)
  clear hown5 hgrow5
  go_wp2_with fail
  refine (HMK.out _ _ _ (unhide HI5)).mono ?_
  rintro e w6 ⟨rfl, hb6⟩
  have HB6 := hide ((unhide HB5).trans (hb6.mono (unhide HB5).size))
  clear hb6
  go_wp2_with fail
  go_ret
  exact ⟨rfl, unhide HB6⟩

end Go.Proofs.YtdifpemohdnolaaGreat
