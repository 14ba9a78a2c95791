/- The reference's read, Valid and checked. Conditions: none for Valid and checked (but a length below 2^48); read: at most 1048576 bytes. -/
import Derived.Test.YtaambeficfiacaaGreatDoorVrH
namespace Go.Proofs.YtaambeficfiacaaGreatDoor
open Go.RowKit VM

set_option maxRecDepth 100000 in
set_option maxHeartbeats 3200000 in
theorem read_any (d : Nat) (h : d ≤ 33) (s : ByteArray) (w : World) (hb : s.size ≤ 1048576) :
    Calls Tryz.prog 55 #[.string s, .int .i64 (d : Int)] w (WkPost (dec d (bs s)) s.size d w) := by
  have HC := Lib.hid (fun w => walk_checked d h s w hb)
  rw [decC_true] at HC
  generalize dec d (bs s) = o at *
  go_enter Tryz.func55, Tryz.ntmps55
  go_wp2_with fail
  refine (HC.out _).mono ?_
  rintro e w3 hW
  cases o with
  | none =>
    obtain ⟨rfl, hb3⟩ := hW
    have HB := hide hb3
    clear hb3
    go_wp2_with fail
    go_ret3
    exact ⟨rfl, unhide HB⟩
  | some q =>
    obtain ⟨v, r⟩ := q
    obtain ⟨A4, c4, ps4, dd4, rfl, hdd4, hown4, hp4, hb3⟩ := hW
    have HB := hide hb3
    have HO := hide hown4
    have HP := Lib.hid hp4
    clear hb3 hown4 hp4
    go_wp2_with fail
    go_ret3
    exact ⟨A4, c4, ps4, dd4, rfl, hdd4, unhide HO, HP.out, unhide HB⟩
set_option maxRecDepth 100000 in
set_option maxHeartbeats 3200000 in
theorem rvalid_any (s : ByteArray) (hb : s.size ≤ 281474976710656) (w : World) :
    Calls Tryz.prog 52 #[.string s] w fun e w' => e = .returned (.bool (valB 32 s)) ∧ Below w.heap.size w w' := by
  by_cases h : s.size ≤ 131072
  · have HC := Lib.hid (fun w => read_any 32 (by decide) s w (by omega))
    cases hd : dec 32 (bs s) with
    | none =>
      have hv : valB 32 s = false := by unfold valB; rw [hd]; simp
      rw [hv]
      rw [hd] at HC
      clear hd hv
      go_enter Tryz.func52, Tryz.ntmps52
      go_wp2_with fail
      refine (HC.out _).mono ?_
      rintro e w3 hW
      obtain ⟨rfl, hb3⟩ := hW
      have HB := hide hb3
      clear hb3
      go_wp2_with fail
      go_ret
      exact ⟨rfl, unhide HB⟩
    | some q =>
      obtain ⟨v, r⟩ := q
      obtain ⟨g1, g2⟩ := dec_ok 32 _ _ _ hd
      have hv0 := enc_pos v g2
      have hlen := congrArg List.length g1
      rw [bs_size, List.length_append] at hlen
      have hv : valB 32 s = (((s.size - r.length : Nat) : Int) == (s.size : Int)) := by
        have := valB_end (d := 32) (s := s)
        unfold valB
        rw [← this, hd, decide_eq_true h]
        rfl
      rw [hv]
      rw [hd] at HC
      obtain ⟨z, hz⟩ : ∃ z, z = s.size - r.length := ⟨_, rfl⟩
      rw [← hz]
      have hz0 : 0 < z := by omega
      clear hd hv g1 g2 hlen hv0
      go_enter Tryz.func52, Tryz.ntmps52
      go_wp2_with fail
      refine (HC.out _).mono ?_
      rintro e w3 hW
      obtain ⟨A4, c4, ps4, dd4, rfl, -, -, -, hb3⟩ := hW
      have HB := hide hb3
      rw [← hz]
      clear hb3 hz
      go_wp2_with fail
      go_ret
      exact ⟨rfl, unhide HB⟩
  · have hv : valB 32 s = false := by unfold valB; rw [decide_eq_false h]; rfl
    rw [hv]
    clear hv
    go_enter Tryz.func52, Tryz.ntmps52
    go_wp2_with fail
    go_ret
    exact ⟨rfl, Below.refl _ _⟩
set_option maxHeartbeats 800000 in
theorem checked_any (s : ByteArray) (hb : s.size ≤ 281474976710656) (w : World) :
    Calls Tryz.prog 56 #[.string s] w fun e w' => e = .returned (.string (if valB 32 s = true then s else ⟨#[]⟩)) ∧ Below w.heap.size w w' := by
  have HC := Lib.hid (fun w => rvalid_any s hb w)
  generalize valB 32 s = z at *
  go_enter Tryz.func56, Tryz.ntmps56
  go_wp2_with fail
  refine (HC.out _).mono ?_
  rintro e w3 ⟨rfl, hb3⟩
  have HB := hide hb3
  clear hb3
  cases z
  all_goals
    go_wp2_with fail
    go_ret
    exact ⟨rfl, unhide HB⟩

end Go.Proofs.YtaambeficfiacaaGreatDoor
