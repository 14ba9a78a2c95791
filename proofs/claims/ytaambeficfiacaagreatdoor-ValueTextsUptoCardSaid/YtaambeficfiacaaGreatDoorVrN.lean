/- The reference's two: a number's two bytes. -/
import Derived.Test.YtaambeficfiacaaGreatDoorVrL
import Derived.Test.YtaambeficfiacaaGreatDoorVaC
namespace Go.Proofs.YtaambeficfiacaaGreatDoor
open Go.RowKit VM

theorem all_step {f : ByteArray → Bool} {ps : List ByteArray} {j : Nat} {u : ByteArray} (h : ps[j]? = some u) : (ps.drop j).all f = (f u && (ps.drop (j + 1)).all f) := by
  have hi : j < ps.length := (List.getElem?_eq_some_iff.1 h).1
  rw [List.drop_eq_getElem_cons hi]
  rw [List.getElem?_eq_getElem hi] at h
  rw [Option.some.inj h, List.all_cons]
set_option linter.unusedSimpArgs false in
set_option maxRecDepth 100000 in
set_option maxHeartbeats 3200000 in
theorem rall_any (ps : List ByteArray) (A : Option Addr) (n c : Nat) (w : World) (hn : n = ps.length) (hn1 : n ≤ 1048576) (hs : ∀ s ∈ ps, s.size ≤ 281474976710656) (hr : InC w A (ps.map Value.string)) :
    Calls Tryz.prog 35 #[.slice A n c] w fun e w' => e = .returned (.bool (ps.all (valB 32))) ∧ Below w.heap.size w w' := by
  have HS := Lib.hid hs
  have HR := hide hr
  have HN := Lib.hid hn
  clear hs hr hn
  go_enter Tryz.func35, Tryz.ntmps35
  go_wp2_with fail
  go_loopw [3] (fun iv wr => ∃ j : Nat, iv = .int .i64 j ∧ j ≤ n ∧ Hid (InC wr A (ps.map Value.string)) ∧ Hid (ps.all (valB 32) = (ps.drop j).all (valB 32)) ∧ Hid (Below w.heap.size w wr)) (fun iv _ => n - (intOf iv).toNat)
  case atStart => exact ⟨0, rfl, by omega, unhide HR, rfl, Below.refl _ _⟩
  case round =>
    obtain ⟨j, rfl, hj, hR, hA, hB⟩ := hrel
    by_cases hil : j < n
    · obtain ⟨u, hu⟩ : ∃ u, ps[j]? = some u := ⟨ps[j]'(by have := HN.out; omega), List.getElem?_eq_getElem _⟩
      have HC := Lib.hid (fun w => rvalid_any u (HS.out u (List.mem_of_getElem? hu)) w)
      have HST : Hid (ps.all (valB 32) = (valB 32 u && (ps.drop (j + 1)).all (valB 32))) := Lib.hid (by rw [hA.out]; exact all_step hu)
      obtain ⟨b5, o5, hA1, hb5, hc5⟩ := at1s hR.out (i := j) (u := .string u) (by rw [List.getElem?_map, hu]; rfl)
      subst hA1
      clear hu hA
      go_wp2_with fail
      refine (HC.out _).mono ?_
      rintro e w3 ⟨rfl, hb⟩
      have HB9 := hide (hB.out.trans (hb.mono hB.out.size))
      have HR8 := hide (hR.out.below hb)
      clear hb HC hB hR hc5 hb5
      cases hz : valB 32 u with
      | true =>
        have HA2 : Hid (ps.all (valB 32) = (ps.drop (j + 1)).all (valB 32)) := Lib.hid (by rw [HST.out, hz, Bool.true_and])
        clear HST hz
        go_wp2_with fail
        go_roundw
        case rel => exact ⟨j + 1, by go_num, by omega, unhide HR8, HA2.out, unhide HB9⟩
        case measure => simp [intOf]; omega
      | false =>
        have HA2 : Hid (ps.all (valB 32) = false) := Lib.hid (by rw [HST.out, hz, Bool.false_and])
        clear HST hz
        go_wp2_with fail
        go_ret
        exact ⟨by rw [HA2.out]; rfl, unhide HB9⟩
    · have HA2 : Hid (ps.all (valB 32) = true) := Lib.hid (by
        rw [hA.out, List.drop_eq_nil_of_le (by have := HN.out; omega)]; rfl)
      go_wp2_with fail
      go_ret
      exact ⟨by rw [HA2.out]; rfl, hB.out⟩

end Go.Proofs.YtaambeficfiacaaGreatDoor
namespace Go.Proofs.YtaambeficfiacaaGreatDoor
open Go.RowKit VM

def twoL (n : Nat) : List UInt8 := [UInt8.ofNat (n / 256), UInt8.ofNat n]
set_option linter.unusedSimpArgs false in
set_option maxRecDepth 100000 in
set_option maxHeartbeats 3200000 in
theorem rtwo_any (n : Nat) (hn : n < 65536) (w : World) :
    Calls Tryz.prog 34 #[.int .i64 (n : Int)] w fun e w' => e = .returned (.string ⟨(twoL n).toArray⟩) ∧ Below w.heap.size w w' := by
  have e1 : ((UInt8.ofNat (n / 256)).toNat : Int) = (n : Int) / 256 := by rw [UInt8.toNat_ofNat']; omega
  have e2 : ((UInt8.ofNat n).toNat : Int) = (n : Int) % 256 := by rw [UInt8.toNat_ofNat']; omega
  have hcv := run_convert_bytes_back (P := Tryz.prog) (w.alloc (.cells #[.int .u8 ((n : Int) / 256), .int .u8 ((n : Int) % 256)] 5)) 48 9 5 ⟨w.heap.size, 0, none⟩ 2 (twoL n) Tryz.underlying48 Tryz.underlying5 Tryz.underlying9 (fun q hq => by
    rw [add_at, Nat.zero_add, (Blk.new w _ _).cell]
    match q, hq with
    | 0, _ => rw [← e1]; rfl
    | 1, _ => rw [← e2]; rfl
    | q + 2, hq => exact absurd hq (by show ¬ q + 2 < 2; omega))
  have hl : (twoL n).length = 2 := rfl
  rw [hl] at hcv
  clear e1 e2 hl
  go_enter Tryz.func34, Tryz.ntmps34
  go_wp2_with fail
  go_ret
  exact ⟨rfl, (Below.refl _ _).alloc (Nat.le_refl _) _⟩

end Go.Proofs.YtaambeficfiacaaGreatDoor
