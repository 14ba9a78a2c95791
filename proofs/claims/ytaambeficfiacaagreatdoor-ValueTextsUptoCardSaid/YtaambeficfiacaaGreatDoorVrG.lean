/- The reference's small: is a value a number within two bounds? Condition: at most 1048576 bytes. -/
import Derived.Test.YtaambeficfiacaaGreatDoorVrF
namespace Go.Proofs.YtaambeficfiacaaGreatDoor
open Go.RowKit VM

def smallV (lo hi : Int) : V → Bool
  | .int l => decide (lo ≤ numL l) && decide (numL l ≤ hi)
  | _ => false
set_option linter.unusedSimpArgs false in
set_option maxRecDepth 100000 in
set_option maxHeartbeats 3200000 in
theorem small_any (d : Nat) (s : ByteArray) (x : V) (lo hi : Int) (hx : wf d x = true) (hs : bs s = enc x) (hb : s.size ≤ 1048576) (w : World) :
    Calls Tryz.prog 80 #[.string s, .int .i64 lo, .int .i64 hi] w fun e w' => e = .returned (.bool (smallV lo hi x)) ∧ w = w' := by
  obtain ⟨hs0, k0⟩ := enc_first (r := []) hx (by rw [hs, List.append_nil])
  have e1 : s[0] = x.kind := by rw [bs_get s 0 hs0] at k0; exact Option.some.inj k0
  have wk : wrap64 (x.kind.toNat : Int) = (x.kind.toNat : Int) := IntWalk.wrap64_in _ (by have := x.kind.toNat_lt; omega)
  have HSM : ∀ l, x = .int l → Hid (∀ w, Calls Tryz.prog 54 #[.string (s.extract 1 s.size)] w fun e w' => e = .returned (.int .i64 (numL l)) ∧ w = w') := fun l hl => Lib.hid (by
    subst hl
    have hl := wf_int hx
    have hz1 : 8 ≤ (s.extract 1 s.size).size ∧ (s.extract 1 s.size).size ≤ 1048576 := by
      have zs := bs_size s
      rw [hs] at zs
      rw [← bs_size, bs_extract, hs]
      show 8 ≤ l.length ∧ l.length ≤ 1048576
      omega
    have q1 : (bs (s.extract 1 s.size)).take 8 = l := by
      rw [bs_extract, hs]
      show l.take 8 = l
      exact List.take_of_length_le (by omega)
    intro w
    have := rnumber_any (s.extract 1 s.size) hz1.1 hz1.2 w
    rw [q1] at this
    exact this)
  cases x with
  | int l =>
    have HN := HSM l rfl
    have e3 : s[0] = 1 := e1
    have hs9 : 1 ≤ s.size := hs0
    clear HSM e1 wk k0 hs hx
    by_cases g1 : lo ≤ numL l
    · go_enter Tryz.func80, Tryz.ntmps80
      go_wp2_with fail
      refine (HN.out _).mono ?_
      rintro e w4 ⟨rfl, rfl⟩
      go_wp2_with fail
      refine (HN.out _).mono ?_
      rintro e w4 ⟨rfl, rfl⟩
      go_wp2_with fail
      go_ret
      exact ⟨ret_b (by unfold smallV; simp [g1]), rfl⟩
    · go_enter Tryz.func80, Tryz.ntmps80
      go_wp2_with fail
      refine (HN.out _).mono ?_
      rintro e w4 ⟨rfl, rfl⟩
      go_wp2_with fail
      go_ret
      exact ⟨ret_b (by show false = (decide (lo ≤ numL l) && decide (numL l ≤ hi)); rw [decide_eq_false (p := lo ≤ numL l) (by omega)]; rfl), rfl⟩
  | bool b =>
    have e3 : s[0] = 2 := e1
    clear HSM e1 wk k0 hs hx
    go_enter Tryz.func80, Tryz.ntmps80
    go_wp2_with fail
    go_ret
    exact ⟨rfl, rfl⟩
  | name a b =>
    have e3 : s[0] = 10 := e1
    clear HSM e1 wk k0 hs hx
    go_enter Tryz.func80, Tryz.ntmps80
    go_wp2_with fail
    go_ret
    exact ⟨rfl, rfl⟩
  | comp k l =>
    have e3 : s[0] = k := e1
    have wk2 : wrap64 (k.toNat : Int) = (k.toNat : Int) := wk
    have g1 : ((k.toNat : Int) == 1) = false := u8_ne (kind_comp hx).1
    clear HSM e1 wk k0 hs hx
    go_enter Tryz.func80, Tryz.ntmps80
    go_wp2_with fail
    go_ret
    exact ⟨rfl, rfl⟩

end Go.Proofs.YtaambeficfiacaaGreatDoor
