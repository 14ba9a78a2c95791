/- The reference's Number. Condition: at most 2^48 bytes. -/
import Derived.Test.YtaambeficfiacaaGreatDoorVrJ
namespace Go.Proofs.YtaambeficfiacaaGreatDoor
open Go.RowKit VM

def kindM (s : ByteArray) : Int := if valB 32 s = true then ((treeB s).kind.toNat : Int) else 0
set_option linter.unusedSimpArgs false in
set_option maxRecDepth 100000 in
set_option maxHeartbeats 1600000 in
theorem rkind_any (s : ByteArray) (hs : s.size ≤ 281474976710656) (w : World) :
    Calls Tryz.prog 29 #[.string s] w fun e w' => e = .returned (.int .i64 (kindM s)) ∧ Below w.heap.size w w' := by
  have HV := Lib.hid (fun w => rvalid_any s hs w)
  unfold kindM
  cases h1 : valB 32 s with
  | true =>
    rw [h1] at HV
    obtain ⟨a1, a2, a3⟩ := tree_ok h1
    obtain ⟨hs0, k0⟩ := enc_first (r := []) a1 (by rw [a2, List.append_nil])
    have e1 : s[0] = (treeB s).kind := by rw [bs_get s 0 hs0] at k0; exact Option.some.inj k0
    rw [if_pos rfl]
    generalize (treeB s).kind = k at *
    have wk : wrap64 (k.toNat : Int) = (k.toNat : Int) := IntWalk.wrap64_in _ (by have := k.toNat_lt; omega)
    clear a1 a2 h1 k0
    go_enter Tryz.func29, Tryz.ntmps29
    go_wp2_with fail
    refine (HV.out _).mono ?_
    rintro e w1 ⟨rfl, hb1⟩
    have HB1 := hide hb1
    clear hb1
    go_wp2_with fail
    go_ret
    exact ⟨ret_i wk, unhide HB1⟩
  | false =>
    rw [h1] at HV
    rw [if_neg (by simp)]
    clear h1
    go_enter Tryz.func29, Tryz.ntmps29
    go_wp2_with fail
    refine (HV.out _).mono ?_
    rintro e w1 ⟨rfl, hb1⟩
    have HB1 := hide hb1
    clear hb1
    go_wp2_with fail
    go_ret
    exact ⟨rfl, unhide HB1⟩

end Go.Proofs.YtaambeficfiacaaGreatDoor
namespace Go.Proofs.YtaambeficfiacaaGreatDoor
open Go.RowKit VM

def numT : V → Int
  | .int l => numL l
  | .bool c => (c.toNat : Int)
  | .name a b => (u16 a b : Int)
  | .comp _ _ => 0
def numM (s : ByteArray) : Int := if valB 32 s = true then numT (treeB s) else 0
set_option linter.unusedSimpArgs false in
set_option maxRecDepth 100000 in
set_option maxHeartbeats 3200000 in
theorem rNumber_any (s : ByteArray) (hs : s.size ≤ 281474976710656) (w : World) :
    Calls Tryz.prog 31 #[.string s] w fun e w' => e = .returned (.int .i64 (numM s)) ∧ Below w.heap.size w w' := by
  have HK := Lib.hid (fun w => rkind_any s hs w)
  unfold numM
  unfold kindM at HK
  cases h1 : valB 32 s with
  | false =>
    rw [h1, if_neg (by simp)] at HK
    rw [if_neg (by simp)]
    clear h1
    go_enter Tryz.func31, Tryz.ntmps31
    go_wp2_with fail
    refine (HK.out _).mono ?_
    rintro e w1 ⟨rfl, hb1⟩
    have HB1 := hide hb1
    clear hb1
    go_wp2_with fail
    go_ret
    exact ⟨rfl, unhide HB1⟩
  | true =>
    rw [h1, if_pos rfl] at HK
    rw [if_pos rfl]
    obtain ⟨a1, a2, a3⟩ := tree_ok h1
    generalize treeB s = x at *
    clear h1
    have zs := bs_size s
    rw [a2] at zs
    cases x with
    | int l =>
      have hl := wf_int a1
      have hs9 : 1 ≤ s.size := by rw [← zs]; show 1 ≤ (1 :: l).length; simp
      have hz1 : 8 ≤ (s.extract 1 s.size).size ∧ (s.extract 1 s.size).size ≤ 1048576 := by
        rw [← bs_size, bs_extract, a2]
        show 8 ≤ l.length ∧ l.length ≤ 1048576
        omega
      have HN := Lib.hid (fun w => rnumber_any (s.extract 1 s.size) hz1.1 hz1.2 w)
      have q1 : (bs (s.extract 1 s.size)).take 8 = l := by
        rw [bs_extract, a2]
        show l.take 8 = l
        exact List.take_of_length_le (by omega)
      rw [q1] at HN
      have HK1 : Hid (∀ w, Calls Tryz.prog 29 #[.string s] w fun e w' => e = .returned (.int .i64 1) ∧ Below w.heap.size w w') := Lib.hid HK.out
      clear HK a1 a2 zs q1 hz1 hl
      go_enter Tryz.func31, Tryz.ntmps31
      go_wp2_with fail
      refine (HK1.out _).mono ?_
      rintro e w1 ⟨rfl, hb1⟩
      have HB1 := hide hb1
      clear hb1
      go_wp2_with fail
      refine (HN.out _).mono ?_
      rintro e w2 ⟨rfl, rfl⟩
      go_wp2_with fail
      go_ret
      exact ⟨rfl, unhide HB1⟩
    | bool c =>
      have HK1 : Hid (∀ w, Calls Tryz.prog 29 #[.string s] w fun e w' => e = .returned (.int .i64 2) ∧ Below w.heap.size w w') := Lib.hid HK.out
      have hs2 : 1 < s.size := by rw [← zs]; show 1 < [2, c].length; simp
      have e1 : s[1] = c := by
        have := bs_get s 1 hs2
        rw [a2] at this
        exact (Option.some.inj this).symm
      have wk : wrap64 (c.toNat : Int) = (c.toNat : Int) := IntWalk.wrap64_in _ (by have := c.toNat_lt; omega)
      clear HK a1 a2 zs
      go_enter Tryz.func31, Tryz.ntmps31
      go_wp2_with fail
      refine (HK1.out _).mono ?_
      rintro e w1 ⟨rfl, hb1⟩
      have HB1 := hide hb1
      clear hb1
      go_wp2_with fail
      go_ret
      exact ⟨ret_i wk, unhide HB1⟩
    | name a b =>
      have HK1 : Hid (∀ w, Calls Tryz.prog 29 #[.string s] w fun e w' => e = .returned (.int .i64 10) ∧ Below w.heap.size w w') := Lib.hid HK.out
      have hs3 : 2 < s.size := by rw [← zs]; show 2 < [10, a, b].length; simp
      have hs2 : 1 < s.size := by omega
      have e1 : s[1] = a := by
        have := bs_get s 1 hs2
        rw [a2] at this
        exact (Option.some.inj this).symm
      have e2 : s[2] = b := by
        have := bs_get s 2 hs3
        rw [a2] at this
        exact (Option.some.inj this).symm
      have hor := or_i64 a.toNat b.toNat (by have := a.toNat_lt; omega) b.toNat_lt
      have w1 : wrap64 (a.toNat : Int) = (a.toNat : Int) := IntWalk.wrap64_in _ (by have := a.toNat_lt; omega)
      have w2 : wrap64 (b.toNat : Int) = (b.toNat : Int) := IntWalk.wrap64_in _ (by have := b.toNat_lt; omega)
      have w3 : wrap64 ((a.toNat : Int) * 256) = (a.toNat : Int) * 256 := IntWalk.wrap64_in _ (by have := a.toNat_lt; omega)
      clear HK a1 a2 zs
      go_enter Tryz.func31, Tryz.ntmps31
      go_wp2_with fail
      refine (HK1.out _).mono ?_
      rintro e w4 ⟨rfl, hb1⟩
      have HB1 := hide hb1
      clear hb1
      go_wp2_with fail
      go_quiet (fail)
      go_wp2_with fail
      go_ret
      refine ⟨ret_i ?_, below_drewN (unhide HB1) _⟩
      show _ = ((a.toNat * 256 + b.toNat : Nat) : Int)
      rw [Int.natCast_add, Int.natCast_mul]; rfl
    | comp k l =>
      have HK1 : Hid (∀ w, Calls Tryz.prog 29 #[.string s] w fun e w' => e = .returned (.int .i64 (k.toNat : Int)) ∧ Below w.heap.size w w') := Lib.hid HK.out
      obtain ⟨k1, k2, k3⟩ := kind_comp a1
      have n1 : ((k.toNat : Int) == 1) = false := u8_ne k1
      have n2 : ((k.toNat : Int) == 2) = false := u8_ne k2
      have n3 : ((k.toNat : Int) == 10) = false := u8_ne k3
      clear HK a1 a2 zs k1 k2 k3
      go_enter Tryz.func31, Tryz.ntmps31
      go_wp2_with fail
      refine (HK1.out _).mono ?_
      rintro e w1 ⟨rfl, hb1⟩
      have HB1 := hide hb1
      clear hb1
      go_wp2_with fail
      go_ret
      exact ⟨rfl, unhide HB1⟩

end Go.Proofs.YtaambeficfiacaaGreatDoor
