/- value's Name at any number, Tuple, Dot, Fun, Proc; what they are against the reference's. Conditions: at most 1048575 strings of at most 2^48 bytes. -/
import Derived.Test.YtdifpemohdnolaaGreatVpI
namespace Go.Proofs.YtdifpemohdnolaaGreat
open Go.RowKit VM

set_option linter.unusedSimpArgs false in
set_option maxRecDepth 100000 in
set_option maxHeartbeats 3200000 in
theorem pnameI_any (z : Int) (w : World) : Calls Tryz.prog 89 #[.int .i64 z] w fun e w' => e = .returned (.string (nameI z)) ∧ Below w.heap.size w w' := by
  by_cases h : 0 ≤ z ∧ z ≤ 65535
  · have h1 := pname_any z.toNat (by omega) w
    rw [show ((z.toNat : Nat) : Int) = z by omega] at h1
    unfold nameI
    rw [if_pos h]
    exact h1
  · have HM : Hid (nameI z = ⟨#[]⟩) := Lib.hid (by unfold nameI; rw [if_neg h])
    by_cases h0 : z < 0
    · clear h
      go_enter Tryz.func89, Tryz.ntmps89
      go_wp2_with fail
      go_ret
      exact ⟨by rw [HM.out]; rfl, Below.refl _ _⟩
    · have h2 : 65535 < z := by omega
      have h3 : 0 ≤ z := by omega
      clear h h0
      go_enter Tryz.func89, Tryz.ntmps89
      go_wp2_with fail
      go_ret
      exact ⟨by rw [HM.out]; rfl, Below.refl _ _⟩
/-- the tuple of some strings, or the empty string -/
def tupP (ps : List ByteArray) : ByteArray := if 2 ≤ ps.length ∧ ps.length ≤ 8 then mkP 3 ps else ⟨#[]⟩
set_option linter.unusedSimpArgs false in
set_option maxRecDepth 100000 in
set_option maxHeartbeats 3200000 in
theorem ptuple_any (ps : List ByteArray) (A : Option Addr) (n c : Nat) (w : World) (hn : n = ps.length) (hn1 : n ≤ 1048576) (hs : ∀ s ∈ ps, s.size ≤ 281474976710656) (hr : InC w A (ps.map Value.string)) :
    Calls Tryz.prog 75 #[.slice A n c] w fun e w' => e = .returned (.string (tupP ps)) ∧ Below w.heap.size w w' := by
  have HC := hide (pcomp_any 3 ps A n c w hn hn1 hs hr)
  have HM : Hid (tupP ps = if 2 ≤ n ∧ n ≤ 8 then mkP 3 ps else ⟨#[]⟩) := Lib.hid (by unfold tupP; rw [hn])
  generalize mkP 3 ps = m at *
  generalize tupP ps = tp at *
  clear hn hs hr
  by_cases h1 : n < 2
  · have HM2 : Hid (tp = ⟨#[]⟩) := Lib.hid (by rw [HM.out, if_neg (fun q => by omega)])
    go_enter Tryz.func75, Tryz.ntmps75
    go_wp2_with fail
    go_ret
    exact ⟨by rw [HM2.out]; rfl, Below.refl _ _⟩
  · by_cases h2 : 8 < n
    · have HM2 : Hid (tp = ⟨#[]⟩) := Lib.hid (by rw [HM.out, if_neg (fun q => by omega)])
      go_enter Tryz.func75, Tryz.ntmps75
      go_wp2_with fail
      go_ret
      exact ⟨by rw [HM2.out]; rfl, Below.refl _ _⟩
    · have HM2 : Hid (tp = m) := Lib.hid (by rw [HM.out, if_pos (by omega)])
      go_enter Tryz.func75, Tryz.ntmps75
      go_wp2_with fail
      refine (unhide HC).mono ?_
      rintro e w3 ⟨rfl, hb3⟩
      have HB3 := hide hb3
      clear hb3
      go_wp2_with fail
      go_ret
      exact ⟨by rw [HM2.out]; rfl, unhide HB3⟩
def dotP (z : Int) (ps : List ByteArray) : ByteArray := if ps.length ≤ 8 then mkP 7 (nameI z :: ps) else ⟨#[]⟩
set_option linter.unusedSimpArgs false in
set_option maxRecDepth 100000 in
set_option maxHeartbeats 3200000 in
theorem pdotI_any (z : Int) (ps : List ByteArray) (A : Option Addr) (n c : Nat) (w : World) (hn : n = ps.length) (hn1 : n ≤ 1048575) (hs : ∀ s ∈ ps, s.size ≤ 281474976710656) (hr : InC w A (ps.map Value.string)) :
    Calls Tryz.prog 78 #[.int .i64 z, .slice A n c] w fun e w' => e = .returned (.string (dotP z ps)) ∧ Below w.heap.size w w' := by
  have HNM := Lib.hid (fun w => pnameI_any z w)
  have HH := Lib.hid (fun w hr => headed_any (nameI z) ps A n c w hn (by omega) hr)
  have HC := Lib.hid (fun w B cb hr => pcomp_any 7 (nameI z :: ps) B (1 + n) cb w (by rw [List.length_cons]; omega) (by omega) (fun s h => by
    rcases List.mem_cons.1 h with rfl | h
    · have := nameI_size z; omega
    · exact hs s h) hr)
  have HR := hide hr
  have HM : Hid (dotP z ps = if n ≤ 8 then mkP 7 (nameI z :: ps) else ⟨#[]⟩) := Lib.hid (by unfold dotP; rw [hn])
  generalize mkP 7 (nameI z :: ps) = m at *
  generalize dotP z ps = dp at *
  generalize nameI z = s0 at *
  clear hn hs hr
  by_cases hb0 : 8 < n
  · have HM2 : Hid (dp = ⟨#[]⟩) := Lib.hid (by rw [HM.out, if_neg (fun q => by omega)])
    go_enter Tryz.func78, Tryz.ntmps78
    go_wp2_with fail
    go_ret
    exact ⟨by rw [HM2.out]; rfl, Below.refl _ _⟩
  have HM2 : Hid (dp = m) := Lib.hid (by rw [HM.out, if_pos (by omega)])
  go_enter Tryz.func78, Tryz.ntmps78
  go_wp2_with fail
  refine (HNM.out _).mono ?_
  rintro e w3 ⟨rfl, hb3⟩
  have HB3 := hide hb3
  have HR3 := hide ((unhide HR).below hb3)
  clear hb3
  go_wp2_with fail
  refine (HH.out _ (unhide HR3)).mono ?_
  rintro e w4 ⟨B, cb, rfl, hI4, hb4⟩
  have HB4 := hide ((unhide HB3).trans (hb4.mono (unhide HB3).size))
  have HI4 := hide hI4
  clear hI4 hb4
  go_wp2_with fail
  refine (HC.out _ _ _ (unhide HI4)).mono ?_
  rintro e w5 ⟨rfl, hb5⟩
  have HB5 := hide ((unhide HB4).trans (hb5.mono (unhide HB4).size))
  clear hb5
  go_wp2_with fail
  go_ret
  exact ⟨by rw [HM2.out]; rfl, unhide HB5⟩
def funP (z : Int) (ps : List ByteArray) : ByteArray := if 0 ≤ z ∧ z ≤ 65535 ∧ ps.length ≤ 32 then mkP 8 (intB z :: ps) else ⟨#[]⟩
def procP (z : Int) (ps : List ByteArray) : ByteArray := if 1 ≤ z ∧ z ≤ 21 then mkP 9 (intB z :: ps) else ⟨#[]⟩
end Go.Proofs.YtdifpemohdnolaaGreat
