/- cmp.Compare at bytes and numbers. Conditions: none. -/
-- by tools/gen_cmpf.py
import Derived.Test.YtdifpemohdnolaaGreatB0
import Derived.Test.YtdifpemohdnolaaGreatVaM
import Derived.WalkSpells
import Derived.Laws.Bits64b
import Derived.Deep.QuietTactic
import Derived.BigQuiet
namespace Go.Proofs.YtdifpemohdnolaaGreat
open Go.RowKit VM

/-- the bytes of a string -/
abbrev bs (s : ByteArray) : List UInt8 := s.data.toList
theorem bs_size (s : ByteArray) : (bs s).length = s.size := by simp
theorem bs_get (s : ByteArray) (i : Nat) (h : i < s.size) : (bs s)[i]? = some s[i] := by
  show s.data.toList[i]? = _
  rw [List.getElem?_eq_getElem (by simpa using h)]
  rfl
def simpleB (k : UInt8) : Bool := decide (k = 1) || (decide (k = 2) || decide (k = 10))
theorem u8_int (a : UInt8) (b : UInt8) : ((a.toNat : Int) == (b.toNat : Int)) = decide (a = b) := by
  rw [Bool.eq_iff_iff]
  simp only [beq_iff_eq, decide_eq_true_eq]
  constructor
  · intro h; exact UInt8.toNat_inj.1 (by omega)
  · rintro rfl; rfl
theorem ret_b {a b : Bool} (h : a = b) : Ending.returned (.bool a) = .returned (.bool b) := by rw [h]

set_option maxHeartbeats 400000 in
theorem simple_any (k : UInt8) (w : World) : Calls Tryz.prog 93 #[.int .i64 (k.toNat : Int)] w fun e w' => e = .returned (.bool (simpleB k)) ∧ w = w' := by
  by_cases h1 : k = 1
  · subst h1
    go_enter Tryz.func93, Tryz.ntmps93
    go_wp2
    go_ret
    exact ⟨rfl, rfl⟩
  by_cases h2 : k = 2
  · subst h2
    go_enter Tryz.func93, Tryz.ntmps93
    go_wp2
    go_ret
    exact ⟨rfl, rfl⟩
  by_cases h10 : k = 10
  · subst h10
    go_enter Tryz.func93, Tryz.ntmps93
    go_wp2
    go_ret
    exact ⟨rfl, rfl⟩
  have e : simpleB k = false := by unfold simpleB; simp [h1, h2, h10]
  rw [e]
  have g1 : ((k.toNat : Int) == 1) = false := beq_eq_false_iff_ne.2 (fun q => h1 (UInt8.toNat_inj.1 (show k.toNat = 1 by omega)))
  have g2 : ((k.toNat : Int) == 2) = false := beq_eq_false_iff_ne.2 (fun q => h2 (UInt8.toNat_inj.1 (show k.toNat = 2 by omega)))
  have g3 : ((k.toNat : Int) == 10) = false := beq_eq_false_iff_ne.2 (fun q => h10 (UInt8.toNat_inj.1 (show k.toNat = 10 by omega)))
  clear h1 h2 h10 e
  go_enter Tryz.func93, Tryz.ntmps93
  go_wp2
  all_goals
    go_ret
    exact ⟨rfl, rfl⟩
def slenB (k : UInt8) : Nat := if k = 1 then 9 else if k = 2 then 2 else 3
set_option maxHeartbeats 400000 in
theorem simpleLength_any (k : UInt8) (w : World) : Calls Tryz.prog 106 #[.int .i64 (k.toNat : Int)] w fun e w' => e = .returned (.int .i64 ((slenB k : Nat) : Int)) ∧ w = w' := by
  by_cases h1 : k = 1
  · subst h1
    go_enter Tryz.func106, Tryz.ntmps106
    go_wp2
    go_ret
    exact ⟨rfl, rfl⟩
  by_cases h2 : k = 2
  · subst h2
    go_enter Tryz.func106, Tryz.ntmps106
    go_wp2
    go_ret
    exact ⟨rfl, rfl⟩
  have n1 : (k.toNat : Int) ≠ 1 := fun q => h1 (UInt8.toNat_inj.1 (show k.toNat = 1 by omega))
  have n2 : (k.toNat : Int) ≠ 2 := fun q => h2 (UInt8.toNat_inj.1 (show k.toNat = 2 by omega))
  have g1 : ((k.toNat : Int) == 1) = false := beq_eq_false_iff_ne.2 n1
  have g2 : ((k.toNat : Int) == 2) = false := beq_eq_false_iff_ne.2 n2
  have e : slenB k = 3 := by unfold slenB; rw [if_neg h1, if_neg h2]
  rw [e]
  clear h1 h2 e
  go_enter Tryz.func106, Tryz.ntmps106
  go_wp2
  go_ret
  exact ⟨rfl, rfl⟩
theorem or_add (m b : Nat) (hb : b < 256) : (m * 256) ||| b = m * 256 + b := by
  have := Nat.shiftLeft_add_eq_or_of_lt (show b < 2 ^ 8 from hb) m
  rw [Nat.shiftLeft_eq] at this
  exact this.symm
theorem bits_or_i64_nat (a b : Nat) (ha : a < 9223372036854775808) (hb : b < 9223372036854775808) : bits .or .i64 (a : Int) (b : Int) = ((a ||| b : Nat) : Int) := by
  have hx : a ||| b < 2 ^ 63 := Nat.or_lt_two_pow (by omega) (by omega)
  have h1 : (BitVec.ofInt 64 (a : Int)).toNat = a := by
    rw [BitVec.ofInt_natCast, BitVec.toNat_ofNat]; exact Nat.mod_eq_of_lt (by omega)
  have h2 : (BitVec.ofInt 64 (b : Int)).toNat = b := by
    rw [BitVec.ofInt_natCast, BitVec.toNat_ofNat]; exact Nat.mod_eq_of_lt (by omega)
  show IntKind.i64.wrap ((BitVec.ofInt 64 (a : Int) ||| BitVec.ofInt 64 (b : Int)).toNat : Int) = _
  rw [BitVec.toNat_or, h1, h2, IntKind.wrap_i64]
  omega
theorem or_i64 (m b : Nat) (hm : m < 36028797018963968) (hb : b < 256) : bits .or .i64 ((m : Int) * 256) (b : Int) = ((m * 256 + b : Nat) : Int) := by
  have := bits_or_i64_nat (m * 256) b (by omega) (by omega)
  rw [or_add m b hb] at this
  rw [← this]; congr 1
theorem or_u64 (m b : Nat) (hm : m < 72057594037927936) (hb : b < 256) : bits .or .u64 ((m : Int) * 256) (b : Int) = ((m * 256 + b : Nat) : Int) := by
  have := bits_or_u64_nat (m * 256) b (by omega) (by omega)
  rw [or_add m b hb] at this
  rw [← this]; congr 1

set_option maxRecDepth 100000 in
set_option maxHeartbeats 1600000 in
theorem count_any (s : ByteArray) (a b : UInt8) (h3 : 3 ≤ s.size) (ha : (bs s)[1]? = some a) (hb : (bs s)[2]? = some b) (w : World) :
    Calls Tryz.prog 105 #[.string s] w fun e w' => e = .returned (.int .i64 ((u16 a b : Nat) : Int)) ∧ ∃ m, w' = w.drewN m := by
  have e1 : s[1] = a := by rw [bs_get s 1 (by omega)] at ha; exact Option.some.inj ha
  have e2 : s[2] = b := by rw [bs_get s 2 (by omega)] at hb; exact Option.some.inj hb
  have hor := or_i64 a.toNat b.toNat (by have := a.toNat_lt; omega) b.toNat_lt
  have w1 : wrap64 (a.toNat : Int) = (a.toNat : Int) := IntWalk.wrap64_in _ (by have := a.toNat_lt; omega)
  have w2 : wrap64 (b.toNat : Int) = (b.toNat : Int) := IntWalk.wrap64_in _ (by have := b.toNat_lt; omega)
  have w3 : wrap64 ((a.toNat : Int) * 256) = (a.toNat : Int) * 256 := IntWalk.wrap64_in _ (by have := a.toNat_lt; omega)
  go_enter Tryz.func105, Tryz.ntmps105
  go_wp2_with fail
  go_quiet (fail)
  go_wp2_with fail
  go_ret
  refine ⟨?_, _, rfl⟩
  show Ending.returned (Value.int .i64 ((a.toNat : Int) * 256 + (b.toNat : Int))) = _
  unfold u16
  rw [Int.natCast_add, Int.natCast_mul]; rfl

/-- the number of a value without parts -/
def numV (k : UInt8) (s : ByteArray) : Nat := natL (((bs s).drop 1).take (slenB k - 1))
theorem natL_snoc (l : List UInt8) (b : UInt8) : natL (l ++ [b]) = natL l * 256 + b.toNat := by
  unfold natL
  rw [List.foldl_append]; rfl
set_option maxRecDepth 100000 in
set_option maxHeartbeats 1600000 in
theorem number_any (s : ByteArray) (k : UInt8) (h0 : (bs s)[0]? = some k) (hsz : slenB k ≤ s.size) (hb : s.size ≤ 1048576) (w : World) :
    Calls Tryz.prog 109 #[.string s] w fun e w' => e = .returned (.int .i64 (signed (numV k s))) ∧ w = w' := by
  have h9 : 2 ≤ slenB k ∧ slenB k ≤ 9 := by unfold slenB; split <;> (try split) <;> omega
  have e1 : s[0] = k := by rw [bs_get s 0 (by omega)] at h0; exact Option.some.inj h0
  go_enter Tryz.func109, Tryz.ntmps109
  go_wp2_with fail
  go_loopw [3, 4] (fun nv iv wr => ∃ i m : Nat, iv = .int .i64 i ∧ nv = .int .u64 m ∧ 1 ≤ i ∧ i ≤ slenB k ∧ Hid (m = natL (((bs s).drop 1).take (i - 1))) ∧ wr = w) (fun _ iv _ => slenB k - (intOf iv).toNat)
  case atStart => exact ⟨1, 0, rfl, rfl, by omega, by omega, rfl, rfl⟩
  case round =>
    obtain ⟨i, m, rfl, rfl, h1, hi, hM, rfl⟩ := hrel
    have wk : wrap64 (k.toNat : Int) = (k.toNat : Int) := IntWalk.wrap64_in _ (by have := k.toNat_lt; omega)
    go_wp2_with fail
    refine (simpleLength_any k _).mono ?_
    rintro e w4 ⟨rfl, rfl⟩
    by_cases hlt : i < slenB k
    · obtain ⟨b, hbi⟩ : ∃ b, (bs s)[i]? = some b := ⟨(bs s)[i]'(by rw [bs_size]; omega), List.getElem?_eq_getElem _⟩
      have e2 : s[i]'(by omega) = b := by rw [bs_get s i (by omega)] at hbi; exact Option.some.inj hbi
      have hm7 : m < 72057594037927936 := by
        rw [hM.out]
        refine Nat.lt_of_lt_of_le (natL_lt _) ?_
        have hl : (((bs s).drop 1).take (i - 1)).length ≤ 7 := by rw [List.length_take]; omega
        exact Nat.le_trans (Nat.pow_le_pow_right (by decide) hl) (by decide)
      have hor := or_u64 m b.toNat hm7 b.toNat_lt
      have hw1 : IntKind.u64.wrap ((m : Int) * 256) = (m : Int) * 256 := by rw [IntKind.wrap_u64]; omega
      have hw2 : IntKind.u64.wrap (b.toNat : Int) = (b.toNat : Int) := by rw [IntKind.wrap_u64]; have := b.toNat_lt; omega
      have HM2 : Hid (m * 256 + b.toNat = natL (((bs s).drop 1).take (i + 1 - 1))) := Lib.hid (by
        have e3 : ((bs s).drop 1).take (i + 1 - 1) = ((bs s).drop 1).take (i - 1) ++ [b] := by
          rw [show i + 1 - 1 = (i - 1) + 1 by omega, List.take_add_one, List.getElem?_drop, show 1 + (i - 1) = i by omega, hbi]; rfl
        rw [e3, natL_snoc, hM.out])
      clear hbi hM
      go_wp2_with fail
      go_roundw
      case rel => exact ⟨i + 1, m * 256 + b.toNat, by go_num, by first | rfl | go_num, by omega, by omega, HM2.out, trivial⟩
      case measure => simp [intOf]; omega
    · obtain rfl : i = slenB k := by omega
      go_wp2_with fail
      go_ret
      refine ⟨?_, rfl⟩
      have hv : m = numV k s := hM.out
      have hlt2 : m < 18446744073709551616 := by
        rw [hv]
        refine Nat.lt_of_lt_of_le (natL_lt _) ?_
        have hl : (((bs s).drop 1).take (slenB k - 1)).length ≤ 8 := by rw [List.length_take]; omega
        exact Nat.le_trans (Nat.pow_le_pow_right (by decide) hl) (by decide)
      have hs : wrap64 (m : Int) = signed m := by
        unfold signed
        simp only [wrap64]
        split <;> omega
      rw [← hv, ← hs]
      rfl
end Go.Proofs.YtdifpemohdnolaaGreat
namespace Go.Proofs.YtdifpemohdnolaaGreat
open Go.RowKit VM

theorem ret_i {a b : Int} (h : a = b) : Ending.returned (.int .i64 a) = .returned (.int .i64 b) := by rw [h]
theorem nanB (a : Int) (w : World) : Calls Tryz.prog 145 #[.int .u8 a] w fun e w' => e = .returned (.bool false) ∧ w = w' := by
  have g : (a == a) = true := beq_self_eq_true _
  go_enter Tryz.func145, Tryz.ntmps145
  go_wp2
  go_ret
  exact ⟨rfl, rfl⟩
theorem cmpB (a b : Int) (w : World) : Calls Tryz.prog 133 #[.int .u8 a, .int .u8 b] w fun e w' => e = .returned (.int .i64 (sgn a b)) ∧ w = w' := by
  go_enter Tryz.func133, Tryz.ntmps133
  go_wp2_with (go_at_call 145; refine (nanB _ _).mono ?_; rintro e w' ⟨rfl, rfl⟩)
  all_goals
    go_ret
    exact ⟨ret_i (by unfold sgn; repeat' split
                     all_goals omega), rfl⟩
theorem nanL (a : Int) (w : World) : Calls Tryz.prog 146 #[.int .i64 a] w fun e w' => e = .returned (.bool false) ∧ w = w' := by
  have g : (a == a) = true := beq_self_eq_true _
  go_enter Tryz.func146, Tryz.ntmps146
  go_wp2
  go_ret
  exact ⟨rfl, rfl⟩
theorem cmpL (a b : Int) (w : World) : Calls Tryz.prog 134 #[.int .i64 a, .int .i64 b] w fun e w' => e = .returned (.int .i64 (sgn a b)) ∧ w = w' := by
  go_enter Tryz.func134, Tryz.ntmps134
  go_wp2_with (go_at_call 146; refine (nanL _ _).mono ?_; rintro e w' ⟨rfl, rfl⟩)
  all_goals
    go_ret
    exact ⟨ret_i (by unfold sgn; repeat' split
                     all_goals omega), rfl⟩
theorem nanI (a : Int) (w : World) : Calls Tryz.prog 147 #[.int .i64 a] w fun e w' => e = .returned (.bool false) ∧ w = w' := by
  have g : (a == a) = true := beq_self_eq_true _
  go_enter Tryz.func147, Tryz.ntmps147
  go_wp2
  go_ret
  exact ⟨rfl, rfl⟩
theorem cmpI (a b : Int) (w : World) : Calls Tryz.prog 135 #[.int .i64 a, .int .i64 b] w fun e w' => e = .returned (.int .i64 (sgn a b)) ∧ w = w' := by
  go_enter Tryz.func135, Tryz.ntmps135
  go_wp2_with (go_at_call 147; refine (nanI _ _).mono ?_; rintro e w' ⟨rfl, rfl⟩)
  all_goals
    go_ret
    exact ⟨ret_i (by unfold sgn; repeat' split
                     all_goals omega), rfl⟩
end Go.Proofs.YtdifpemohdnolaaGreat
