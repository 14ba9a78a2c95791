/- What the reference's letter, digit, wordEnd, in, Keywords and integer return. What the reference's Name and symbolAt return. What the reference's symbolAt returns: the symbol that symB names. -/
import Derived.Test.YtkjjagmpnnnimaaGreatDoorQ5
import Derived.IntWalk
namespace Go.Proofs.YtkjjagmpnnnimaaGreatDoor
open Go.RowKit M

set_option maxHeartbeats 400000 in
theorem rletter_any (c : UInt8) (w : World) :
    Calls Tryz.prog 28 #[.int .u8 c.toNat] w fun e w' => e = .returned (.bool (letterB c)) ∧ w = w' := by
  go_enter Tryz.func28, Tryz.ntmps28
  go_wp2
  all_goals
    go_ret
    exact ⟨ret_bool (by unfold letterB; first | (rw [Bool.eq_iff_iff]; simp; omega) | (simp; omega)), rfl⟩

set_option maxHeartbeats 400000 in
theorem rdigit_any (c : UInt8) (w : World) :
    Calls Tryz.prog 29 #[.int .u8 c.toNat] w fun e w' => e = .returned (.bool (digitB c)) ∧ w = w' := by
  go_enter Tryz.func29, Tryz.ntmps29
  go_wp2
  all_goals
    go_ret
    exact ⟨ret_bool (by unfold digitB; first | (rw [Bool.eq_iff_iff]; simp; omega) | (simp; omega)), rfl⟩

theorem cont_cases (c : UInt8) : (contB c = true ∧ (letterB c = true ∨ (letterB c = false ∧ digitB c = true) ∨ (letterB c = false ∧ digitB c = false ∧ ((c.toNat : Int) == 95) = true) ∨ (letterB c = false ∧ digitB c = false ∧ ((c.toNat : Int) == 95) = false ∧ ((c.toNat : Int) == 39) = true))) ∨
    (contB c = false ∧ letterB c = false ∧ digitB c = false ∧ ((c.toNat : Int) == 95) = false ∧ ((c.toNat : Int) == 39) = false) := by
  have e1 : ((c.toNat : Int) == 95) = (c.toNat == 95) := by rw [Bool.eq_iff_iff]; simp; omega
  have e2 : ((c.toNat : Int) == 39) = (c.toNat == 39) := by rw [Bool.eq_iff_iff]; simp; omega
  rw [e1, e2]
  unfold contB
  cases letterB c <;> cases digitB c <;> cases (c.toNat == 95) <;> cases (c.toNat == 39) <;> simp

set_option maxHeartbeats 1000000 in
theorem rwordEnd_any (s : ByteArray) (hm : s.size ≤ 140737488355328) (i : Nat) (hi : i ≤ s.size) (w : World) :
    Calls Tryz.prog 31 #[.string s, .int .i64 i] w fun e w' => e = .returned (.int .i64 (i + wlen (rest s i) : Nat)) ∧ w = w' := by
  obtain ⟨R, hg⟩ : ∃ R, R = i + wlen (rest s i) := ⟨_, rfl⟩
  rw [← hg]
  have hR : Hid (R = i + wlen (rest s i)) := hg
  clear hg
  go_enter Tryz.func31, Tryz.ntmps31
  go_wp2
  go_loop [1] (fun t => ∃ k : Nat, i ≤ k ∧ k ≤ s.size ∧ t = .int .i64 k ∧ Hid (R = k + wlen (rest s k))) (fun t => s.size - (intOf t).toNat)
  case atStart => exact ⟨i, by omega, by omega, rfl, hR⟩
  case round =>
    obtain ⟨k, hk1, hk, rfl, hN⟩ := hrel
    by_cases hlt : k < s.size
    · have hr := rest_cons s k hlt
      rcases cont_cases s[k] with ⟨hc, hcs⟩ | ⟨hc, h1, h2, h3, h4⟩
      · have hz : Hid (R = (k + 1) + wlen (rest s (k + 1))) := by
          unfold Hid; rw [hN.out, hr, wlen_cons, hc]; simp; omega
        clear hr hN hc hR
        rcases hcs with h1 | ⟨h1, h2⟩ | ⟨h1, h2, h3⟩ | ⟨h1, h2, h3, h4⟩
        all_goals
          go_wp2_with (first | (go_at_call 28; refine (rletter_any _ _).mono ?_; rintro e w' ⟨rfl, rfl⟩) | (go_at_call 29; refine (rdigit_any _ _).mono ?_; rintro e w' ⟨rfl, rfl⟩))
          go_round
          case rel => exact ⟨k + 1, by omega, by omega, by go_num, hz⟩
          case measure => simp [intOf]; omega
      · have hz : Hid (R = k) := by
          unfold Hid; rw [hN.out, hr, wlen_cons, hc]; rfl
        clear hr hN hc hR
        go_wp2_with (first | (go_at_call 28; refine (rletter_any _ _).mono ?_; rintro e w' ⟨rfl, rfl⟩) | (go_at_call 29; refine (rdigit_any _ _).mono ?_; rintro e w' ⟨rfl, rfl⟩))
        go_ret
        exact ⟨ret_int (by rw [hz.out]), rfl⟩
    · have hz : Hid (R = k) := by
        unfold Hid; rw [hN.out, rest_end s k (by omega)]; rfl
      clear hN hR
      go_wp2
      go_ret
      exact ⟨ret_int (by rw [hz.out]), rfl⟩

theorem contains_step (ls : List Bs) (x : Bs) (k : Nat) (h : k < ls.length) : (ls.drop k).contains x = ((ls.getD k [] == x) || (ls.drop (k + 1)).contains x) := by
  have e : ls.getD k [] = ls[k] := by simp [h]
  rw [List.drop_eq_getElem_cons h, e, List.contains_cons, Bool.beq_comm]

set_option maxHeartbeats 1000000 in
theorem rin_any (ls : List Bs) (n : Nat) (hn : n = ls.length) (hm : n ≤ 1000) (s : ByteArray) (b : Nat) (w : World) (hb : w.heap[b]? = some (strBlock ls)) :
    Calls Tryz.prog 33 #[.slice (some ⟨b, 0, none⟩) n n, .string s] w fun e w' => e = .returned (.bool (ls.contains s.data.toList)) ∧ w = w' := by
  have HC := Lib.hid (fun k => str_cell hb k)
  have HN := Lib.hid hn
  have hR : Hid (ls.contains s.data.toList = (ls.drop 0).contains s.data.toList) := rfl
  generalize ls.contains s.data.toList = R at *
  clear hb hn
  go_enter Tryz.func33, Tryz.ntmps33
  go_wp2
  go_loop [5] (fun t => ∃ k : Nat, k ≤ n ∧ t = .int .i64 k ∧ Hid (R = (ls.drop k).contains s.data.toList)) (fun t => n - (intOf t).toNat)
  case atStart => exact ⟨0, by omega, rfl, hR⟩
  case round =>
    clear hR
    obtain ⟨k, hk, rfl, hN⟩ := hrel
    by_cases hlt : k < n
    · have hs := contains_step ls s.data.toList k (by rw [← HN.out]; exact hlt)
      have hc := HC.out k (by rw [← HN.out]; exact hlt)
      cases hp : (ls.getD k [] == s.data.toList)
      · rw [hp, Bool.false_or] at hs
        have hz : Hid (R = (ls.drop (k + 1)).contains s.data.toList) := hN.out.trans hs
        generalize ls.getD k [] = q at *
        have g0 : ((S q).toList == s.toList) = false := by rw [ByteArray.toList_eq, ByteArray.toList_eq, S_toList]; exact hp
        generalize S q = t at *
        clear hs hN hp
        go_wp2
        go_round
        case rel => exact ⟨k + 1, by omega, by go_num, hz⟩
        case measure => simp [intOf]; omega
      · rw [hp, Bool.true_or] at hs
        have hz : Hid (R = true) := hN.out.trans hs
        generalize ls.getD k [] = q at *
        have g0 : ((S q).toList == s.toList) = true := by rw [ByteArray.toList_eq, ByteArray.toList_eq, S_toList]; exact hp
        generalize S q = t at *
        clear hs hN hp
        go_wp2
        go_ret
        exact ⟨ret_bool (by rw [hz.out]), rfl⟩
    · have hz : Hid (R = false) := by
        unfold Hid; rw [hN.out, List.drop_eq_nil_of_le (by rw [← HN.out]; omega)]; rfl
      clear hN
      go_wp2
      go_ret
      exact ⟨ret_bool (by rw [hz.out]), rfl⟩

set_option maxHeartbeats 400000 in
theorem rkeywords_any (w : World) :
    Calls Tryz.prog 34 #[] w fun e w' => e = .returned (.slice (some ⟨w.heap.size, 0, none⟩) 25 25) ∧ w.alloc (strBlock keywords) = w' := by
  go_enter Tryz.func34, Tryz.ntmps34
  go_wp2
  go_ret
  exact ⟨rfl, rfl⟩

theorem intVal_split (s : ByteArray) (k : Nat) : intVal s.data.toList = (rest s k).foldl (fun a c => 10 * a + (c.toNat - 48)) (intVal (s.data.toList.take k)) := by
  unfold intVal rest
  rw [← List.foldl_append, List.take_append_drop]
theorem intVal_next (s : ByteArray) (k : Nat) (h : k < s.size) : intVal (s.data.toList.take (k + 1)) = 10 * intVal (s.data.toList.take k) + (s[k].toNat - 48) := by
  have e : s.data.toList.take (k + 1) = s.data.toList.take k ++ [s[k]] := by
    rw [List.take_succ_eq_append_getElem (by simpa using h)]; rfl
  unfold intVal
  rw [e, List.foldl_append]; rfl
theorem intVal_le (s : ByteArray) (k : Nat) : intVal (s.data.toList.take k) ≤ intVal s.data.toList := by
  rw [intVal_split s k]; exact foldl_ge _ _

/-- what integer returns of a word: its number, or its error -/
def intV (t : TR) : Value := .tuple #[.int .i64 t.num, .int .i64 t.err]

set_option maxHeartbeats 1000000 in
theorem rinteger_bad (s : ByteArray) (hm : s.size ≤ 140737488355328) (hd : allDigits s.data.toList = false) (w : World) :
    Calls Tryz.prog 32 #[.string s] w fun e w' => e = .returned (.tuple #[.int .i64 0, .int .i64 2]) ∧ w = w' := by
  have hD : Hid (allDigits (rest s 0) = false) := hd
  clear hd
  go_enter Tryz.func32, Tryz.ntmps32
  go_wp2
  go_loop [4] (fun t => ∃ k : Nat, k ≤ s.size ∧ t = .int .i64 k ∧ Hid (allDigits (rest s k) = false)) (fun t => s.size - (intOf t).toNat)
  case atStart => exact ⟨0, by omega, rfl, hD⟩
  case round =>
    clear hD
    obtain ⟨k, hk, rfl, hK⟩ := hrel
    have hlt : k < s.size := by
      rcases Nat.lt_or_ge k s.size with h | h
      · exact h
      · have := hK.out; rw [rest_end s k h] at this; exact absurd this (by decide)
    have hs := digits_step s k hlt
    cases hc : digitB s[k]
    · clear hs hK
      go_wp2_with (go_at_call 29; refine (rdigit_any _ _).mono ?_; rintro e w' ⟨rfl, rfl⟩)
      go_ret2
      exact ⟨rfl, rfl⟩
    · have hz : Hid (allDigits (rest s (k + 1)) = false) := by
        have := hK.out; rw [hs, hc] at this; unfold Hid; simpa using this
      clear hs hK
      go_wp2_with (go_at_call 29; refine (rdigit_any _ _).mono ?_; rintro e w' ⟨rfl, rfl⟩)
      go_round
      case rel => exact ⟨k + 1, by omega, by go_num, hz⟩
      case measure => simp [intOf]; omega

set_option maxHeartbeats 1000000 in
theorem rinteger_zero (s : ByteArray) (hm : s.size ≤ 140737488355328) (hp : 1 < s.size) (hd : allDigits s.data.toList = true) (h0 : s[0].toNat = 48) (w : World) :
    Calls Tryz.prog 32 #[.string s] w fun e w' => e = .returned (.tuple #[.int .i64 0, .int .i64 2]) ∧ w = w' := by
  have hD : Hid (allDigits (rest s 0) = true) := hd
  have hv := cast_of _ _ h0
  clear hd h0
  go_enter Tryz.func32, Tryz.ntmps32
  go_wp2
  go_loop [4] (fun t => ∃ k : Nat, k ≤ s.size ∧ t = .int .i64 k ∧ Hid (allDigits (rest s k) = true)) (fun t => s.size - (intOf t).toNat)
  case atStart => exact ⟨0, by omega, rfl, hD⟩
  case round =>
    clear hD
    obtain ⟨k, hk, rfl, hK⟩ := hrel
    by_cases hlt : k < s.size
    · have hs := digits_step s k hlt
      have hc : digitB s[k] = true := by
        have := hK.out; rw [hs] at this; simp only [Bool.and_eq_true] at this; exact this.1
      have hz : Hid (allDigits (rest s (k + 1)) = true) := by
        have := hK.out; rw [hs] at this; simp only [Bool.and_eq_true] at this; exact this.2
      clear hs hK
      go_wp2_with (go_at_call 29; refine (rdigit_any _ _).mono ?_; rintro e w' ⟨rfl, rfl⟩)
      go_round
      case rel => exact ⟨k + 1, by omega, by go_num, hz⟩
      case measure => simp [intOf]; omega
    · clear hK
      go_wp2
      go_ret2
      exact ⟨rfl, rfl⟩

def numV (n : Nat) : Value := if n < 9223372036854775808 then .tuple #[.int .i64 n, .int .i64 0] else .tuple #[.int .i64 0, .int .i64 9]
theorem numV_lt {n : Nat} (h : n ≤ 9223372036854775807) : numV n = .tuple #[.int .i64 n, .int .i64 0] := by unfold numV; rw [if_pos (by omega)]
theorem numV_ge {n : Nat} (h : ¬ n ≤ 9223372036854775807) : numV n = .tuple #[.int .i64 0, .int .i64 9] := by unfold numV; rw [if_neg (by omega)]
theorem int_cast_eq {a : Int} {n : Nat} (h : a = n) : Value.int .i64 a = .int .i64 n := by rw [h]

set_option maxHeartbeats 2000000 in
theorem rinteger_num (s : ByteArray) (hm : s.size ≤ 140737488355328) (hp : 0 < s.size) (hd : allDigits s.data.toList = true) (h0 : s.size = 1 ∨ s[0].toNat ≠ 48) (w : World) :
    Calls Tryz.prog 32 #[.string s] w fun e w' => e = .returned (numV (intVal s.data.toList)) ∧ w = w' := by
  have hD : Hid (allDigits (rest s 0) = true) := hd
  have h1 : (decide ((1 : Int) < (s.size : Int)) = false) ∨ ((1 : Int) < (s.size : Int) ∧ ((s[0].toNat : Int) == 48) = false) := by
    by_cases h : s.size = 1
    · left; simp; omega
    · right
      rcases h0 with h0 | h0
      · exact absurd h0 h
      · exact ⟨by omega, beq_eq_false_iff_ne.2 (by omega)⟩
  clear hd h0
  rcases h1 with h1 | ⟨h1, h2⟩
  all_goals
    go_enter Tryz.func32, Tryz.ntmps32
    go_wp2
    go_loop [4] (fun t => ∃ k : Nat, k ≤ s.size ∧ t = .int .i64 k ∧ Hid (allDigits (rest s k) = true)) (fun t => s.size - (intOf t).toNat)
    case atStart => exact ⟨0, by omega, rfl, hD⟩
    case round =>
      obtain ⟨k, hk, rfl, hK⟩ := hrel
      by_cases hlt : k < s.size
      · have hs := digits_step s k hlt
        have hc : digitB s[k] = true := by
          have := hK.out; rw [hs] at this; simp only [Bool.and_eq_true] at this; exact this.1
        have hz : Hid (allDigits (rest s (k + 1)) = true) := by
          have := hK.out; rw [hs] at this; simp only [Bool.and_eq_true] at this; exact this.2
        clear hs hK
        go_wp2_with (go_at_call 29; refine (rdigit_any _ _).mono ?_; rintro e w' ⟨rfl, rfl⟩)
        go_round
        case rel => exact ⟨k + 1, by omega, by go_num, hz⟩
        case measure => simp [intOf]; omega
      · clear hK
        go_wp2
        go_loop [5, 6] (fun t5 t6 => ∃ (j V : Nat), j ≤ s.size ∧ t6 = .int .i64 j ∧ t5 = .int .i64 V ∧ Hid (V ≤ 9223372036854775807 ∧ V = intVal (s.data.toList.take j) ∧ allDigits (rest s j) = true)) (fun _ t6 => s.size - (intOf t6).toNat)
        case atStart => exact ⟨0, 0, by omega, rfl, rfl, by decide, rfl, hD.out⟩
        case round =>
          obtain ⟨j, V, hj, rfl, rfl, hV⟩ := hrel
          by_cases hlj : j < s.size
          · have hs := digits_step s j hlj
            have hc : digitB s[j] = true := by
              have := hV.out.2.2; rw [hs] at this; simp only [Bool.and_eq_true] at this; exact this.1
            have hb : 48 ≤ (s[j].toNat : Int) ∧ (s[j].toNat : Int) ≤ 57 := by
              unfold digitB at hc; simp at hc; omega
            obtain ⟨hb1, hb2⟩ := hb
            clear hs hc
            have hnx := intVal_next s j hlj
            have hle := intVal_le s (j + 1)
            have HNX := Lib.hid hnx
            have HLE := Lib.hid hle
            have HDN : Hid (allDigits (rest s (j + 1)) = true) := by
              have := hV.out.2.2; rw [digits_step s j hlj] at this; simp only [Bool.and_eq_true] at this; exact this.2
            clear hnx hle
            go_wp2
            · have hlt2 : (9223372036854775807 - ((s[j].toNat : Int) - 48)) / 10 < (V : Int) := by assumption
              have hge : ¬ intVal s.data.toList ≤ 9223372036854775807 := by
                have a1 := HNX.out
                have a2 := HLE.out
                have a3 := hV.out.2.1
                rw [a1, ← a3] at a2
                clear a1 a3
                omega
              go_ret2
              exact ⟨by rw [numV_ge hge]; rfl, rfl⟩
            · have hle2 : (V : Int) ≤ (9223372036854775807 - ((s[j].toNat : Int) - 48)) / 10 := by assumption
              have a1 := HNX.out
              have a3 := hV.out.2.1
              rw [← a3] at a1
              refine ⟨⟨j + 1, 10 * V + (s[j].toNat - 48), by omega, by go_num, int_cast_eq (by omega), ⟨by omega, a1.symm, HDN.out⟩⟩, ?_⟩
              simp [intOf]; omega
          · have hf : Hid (V = intVal s.data.toList) := by
              have := hV.out.2.1; rw [List.take_of_length_le (by simp; omega)] at this; exact this
            have he : Hid (numV (intVal s.data.toList) = .tuple #[.int .i64 V, .int .i64 0]) := by
              unfold Hid
              rw [← hf.out, numV_lt hV.out.1]
            go_wp2
            go_ret2
            exact ⟨by rw [he.out]; rfl, rfl⟩

theorem rinteger_any (s : ByteArray) (hm : s.size ≤ 140737488355328) (hp : 0 < s.size) (w : World) :
    Calls Tryz.prog 32 #[.string s] w fun e w' => e = .returned (intV (intR s.data.toList)) ∧ w = w' := by
  have hh : (s.data.toList.head? = some 48) ↔ s[0].toNat = 48 := by
    rw [head?_of s hp, Option.some_inj]; exact eq_of_toNat _ 48 (by decide)
  have hz : s.data.toList.length = s.size := by simp
  unfold intR
  cases hd : allDigits s.data.toList
  · have e : (if s.data.toList.head? = some 48 ∧ s.data.toList ≠ [48] then (⟨0, 0, [], 2⟩ : TR) else if false = false then ⟨0, 0, [], 2⟩ else if intVal s.data.toList < 9223372036854775808 then ⟨2, (intVal s.data.toList : Int), [], 0⟩ else ⟨0, 0, [], 9⟩) = ⟨0, 0, [], 2⟩ := by
      split <;> simp
    rw [e]
    exact rinteger_bad s hm hd w
  · by_cases h1 : s[0].toNat = 48 ∧ 1 < s.size
    · rw [if_pos ⟨hh.2 h1.1, fun e => by rw [e] at hz; simp at hz; omega⟩]
      exact rinteger_zero s hm h1.2 hd h1.1 w
    · have hn : ¬ (s.data.toList.head? = some 48 ∧ s.data.toList ≠ [48]) := by
        rintro ⟨a, b⟩
        have a1 := hh.1 a
        have hs1 : s.size = 1 := by
          rcases Nat.lt_or_ge 1 s.size with h | h
          · exact absurd ⟨a1, h⟩ h1
          · omega
        apply b
        have hr : rest s 1 = [] := rest_end s 1 (by omega)
        rw [head_of s hp, hr]
        have : s[0] = 48 := (eq_of_toNat s[0] 48 (by decide)).2 a1
        rw [this]
      rw [if_neg hn, if_neg (by decide)]
      have := rinteger_num s hm hp hd (by
        by_cases h : s.size = 1
        · exact .inl h
        · exact .inr (fun e => h1 ⟨e, by omega⟩)) w
      unfold numV at this
      by_cases hi : intVal s.data.toList < 9223372036854775808
      · rw [if_pos hi] at this ⊢; exact this
      · rw [if_neg hi] at this ⊢; exact this

end Go.Proofs.YtkjjagmpnnnimaaGreatDoor

namespace Go.Proofs.YtkjjagmpnnnimaaGreatDoor
open Go.RowKit M

/-- is the text a name -/
def nameB (l : Bs) : Bool := decide (0 < l.length) && (decide (l.length ≤ 64) && ((l.head?.map letterB == some true) && (decide (wlen l = l.length) && !kwB l)))

set_option maxHeartbeats 1000000 in
theorem rname_core (s : ByteArray) (hm : s.size ≤ 140737488355328) (hp : 0 < s.size) (a b c : Bool) (w : World) (h1 : decide (s.size ≤ 64) = a) (h2 : letterB s[0] = b) (h3 : decide (wlen s.data.toList = s.size) = c) :
    Calls Tryz.prog 35 #[.string s] w fun e w' => e = .returned (.bool (a && (b && (c && !kwB s.data.toList)))) ∧ Below w.heap.size w w' := by
  obtain ⟨e1, e2⟩ := notEmpty s hp
  have HE := fun W => rwordEnd_any s hm 0 (by omega) W
  rw [rest_zero, Nat.zero_add] at HE
  have HE := Lib.hid HE
  have HK := Lib.hid (fun b W hb => rin_any keywords 25 rfl (by decide) s b W hb)
  cases a
  · have g1 : decide ((s.size : Int) ≤ 64) = false := by simp at h1 ⊢; omega
    clear h1 h2 h3
    go_enter Tryz.func35, Tryz.ntmps35
    go_wp2
    go_ret
    exact ⟨rfl, Below.refl _ _⟩
  · have g1 : (s.size : Int) ≤ 64 := by simp at h1; omega
    clear h1
    cases b
    · clear h3
      go_enter Tryz.func35, Tryz.ntmps35
      go_wp2_with (go_at_call 28; refine (rletter_any _ _).mono ?_; rintro e w' ⟨rfl, rfl⟩)
      go_ret
      exact ⟨rfl, Below.refl _ _⟩
    · generalize wlen s.data.toList = N at *
      cases c
      · have g3 : ((N : Int) == (s.size : Int)) = false := by simp at h3; exact beq_eq_false_iff_ne.2 (by omega)
        clear h3
        go_enter Tryz.func35, Tryz.ntmps35
        go_wp2_with fail
        refine (rletter_any _ _).mono ?_
        rintro e w' ⟨rfl, rfl⟩
        go_wp2_with fail
        refine (HE.out _).mono ?_
        rintro e w' ⟨rfl, rfl⟩
        go_wp2
        go_ret
        exact ⟨rfl, Below.refl _ _⟩
      · have g3 : ((N : Int) == (s.size : Int)) = true := by simp at h3; exact beq_iff_eq.2 (by omega)
        clear h3
        go_enter Tryz.func35, Tryz.ntmps35
        go_wp2_with fail
        refine (rletter_any _ _).mono ?_
        rintro e w' ⟨rfl, rfl⟩
        go_wp2_with fail
        refine (HE.out _).mono ?_
        rintro e w' ⟨rfl, rfl⟩
        go_wp2_with fail
        refine (rkeywords_any _).mono ?_
        rintro e w' ⟨rfl, rfl⟩
        go_wp2_with fail
        refine (HK.out _ _ (heap_alloc_new w _)).mono ?_
        rintro e w' ⟨rfl, rfl⟩
        have HKB : Hid (keywords.contains s.data.toList = kwB s.data.toList) := rfl
        generalize keywords.contains s.data.toList = kb at *
        cases kb
        all_goals
          go_wp2
          go_ret
          exact ⟨ret_bool (by rw [← HKB.out]; rfl), (Below.refl _ _).alloc (Nat.le_refl _) _⟩

theorem rname_empty (w : World) : Calls Tryz.prog 35 #[.string ⟨#[]⟩] w fun e w' => e = .returned (.bool false) ∧ Below w.heap.size w w' := by
  go_enter Tryz.func35, Tryz.ntmps35
  go_wp2
  go_ret
  exact ⟨rfl, Below.refl _ _⟩

theorem rname_any (s : ByteArray) (hm : s.size ≤ 140737488355328) (w : World) :
    Calls Tryz.prog 35 #[.string s] w fun e w' => e = .returned (.bool (nameB s.data.toList)) ∧ Below w.heap.size w w' := by
  by_cases h0 : s.size = 0
  · obtain rfl := size_zero s h0
    exact rname_empty w
  have hp : 0 < s.size := by omega
  have hz : s.data.toList.length = s.size := by simp
  have := rname_core s hm hp _ _ _ w rfl rfl rfl
  unfold nameB
  rw [hz, head?_of s hp]
  have e : (Option.map letterB (some s[0]) == some true) = letterB s[0] := by cases h : letterB s[0] <;> simp [h]
  rw [e, decide_eq_true hp, Bool.true_and]
  exact this

end Go.Proofs.YtkjjagmpnnnimaaGreatDoor

namespace Go.Proofs.YtkjjagmpnnnimaaGreatDoor
open Go.RowKit M

theorem firstP_snoc (l : Bs) (ps : List Bs) (p : Bs) (hne : ∀ q, q ∈ ps → q ≠ []) : firstP l (ps ++ [p]) = if firstP l ps ≠ [] then firstP l ps else if p.isPrefixOf l then p else [] := by
  induction ps with
  | nil => simp [firstP]
  | cons a r ih =>
    have ha := hne a (by simp)
    have := ih (fun q hq => hne q (by simp [hq]))
    show (if a.isPrefixOf l then a else firstP l (r ++ [p])) = if (if a.isPrefixOf l then a else firstP l r) ≠ [] then (if a.isPrefixOf l then a else firstP l r) else if p.isPrefixOf l then p else []
    by_cases h : a.isPrefixOf l = true
    · rw [if_pos h, if_pos h, if_pos ha]
    · rw [if_neg h, if_neg h, this]
theorem symbolsL_ne : ∀ q, q ∈ symbolsL → q ≠ [] := by decide
theorem symbolsL_len : symbolsL.length = 59 := by decide
theorem take_next (k : Nat) (h : k < 59) : symbolsL.take (k + 1) = symbolsL.take k ++ [symbolsL.getD k []] := by
  have h' : k < symbolsL.length := by rw [symbolsL_len]; exact h
  rw [List.take_succ_eq_append_getElem h']
  simp [h']
theorem symbolsL_at : ∀ k : Fin 59, 1 ≤ (symbolsL.getD k.val []).length ∧ (symbolsL.getD k.val []).length ≤ 4 := by decide
theorem symbolsL_desc : ∀ k : Fin 59, ∀ j : Fin 59, j.val ≤ k.val → (symbolsL.getD k.val []).length ≤ (symbolsL.getD j.val []).length := by decide +kernel
theorem firstP_mem (l : Bs) (ps : List Bs) (h : firstP l ps ≠ []) : firstP l ps ∈ ps := by
  induction ps with
  | nil => exact absurd rfl h
  | cons a r ih =>
    unfold firstP at h ⊢
    by_cases ha : a.isPrefixOf l = true
    · rw [if_pos ha]; simp
    · rw [if_neg ha] at h ⊢; simp [ih h]
theorem best_long (l : Bs) (k : Nat) (hk : k < 59) (h : firstP l (symbolsL.take k) ≠ []) : (symbolsL.getD k []).length ≤ (firstP l (symbolsL.take k)).length := by
  have hm := firstP_mem l _ h
  obtain ⟨j, hj, he⟩ := List.getElem_of_mem hm
  have hjk : j < k := by rw [List.length_take] at hj; omega
  rw [← he, List.getElem_take]
  have h2 := symbolsL_desc ⟨k, hk⟩ ⟨j, by omega⟩ (by simp; omega)
  have h3 : j < symbolsL.length := by rw [symbolsL_len]; omega
  simpa [h3] using h2
theorem best_le (l : Bs) (k : Nat) : (firstP l (symbolsL.take k)).length ≤ 4 := by
  by_cases h : firstP l (symbolsL.take k) = []
  · rw [h]; simp
  · have hm := List.mem_of_mem_take (firstP_mem l _ h)
    have : ∀ q, q ∈ symbolsL → q.length ≤ 4 := by decide
    exact this _ hm

/-- the symbols that begin with one byte -/
theorem firstP_filter (c : UInt8) (r : Bs) (ps : List Bs) (hne : ∀ q, q ∈ ps → q ≠ []) : firstP (c :: r) ps = firstP (c :: r) (ps.filter fun q => q.head? == some c) := by
  induction ps with
  | nil => rfl
  | cons a t ih =>
    have ih := ih (fun q hq => hne q (by simp [hq]))
    cases a with
    | nil => exact absurd rfl (hne [] (by simp))
    | cons x y =>
      rw [List.filter_cons]
      by_cases hx : x = c
      · subst hx
        rw [if_pos (by simp)]
        show (if _ then _ else _) = (if _ then _ else _)
        rw [ih]
      · rw [if_neg (by simp [hx])]
        show (if (x :: y).isPrefixOf (c :: r) then x :: y else firstP (c :: r) t) = _
        have : (x :: y).isPrefixOf (c :: r) = false := by simp [List.isPrefixOf, hx]
        rw [this, if_neg (by decide), ih]

/-- the exception of the document -/
def excB (l : Bs) : Bool := [40, 124, 126].isPrefixOf l || [40, 124, 124].isPrefixOf l
theorem symB_spec (l : Bs) : symB l = if excB l then [40] else firstP l symbolsL := by
  cases l with
  | nil => rfl
  | cons c r =>
    rw [firstP_filter c r symbolsL symbolsL_ne]
    show symOf c (c :: r) = _
    by_cases h40 : c = 40
    · subst h40; rfl
    · have he : excB (c :: r) = false := by
        have h' : (40 == c) = false := beq_eq_false_iff_ne.2 (fun e => h40 e.symm)
        unfold excB; simp [List.isPrefixOf, h']
      rw [he, if_neg (by decide)]
      by_cases h91 : c = 91
      · subst h91; rfl
      by_cases h124 : c = 124
      · subst h124; rfl
      by_cases h60 : c = 60
      · subst h60; rfl
      by_cases h93 : c = 93
      · subst h93; rfl
      by_cases h43 : c = 43
      · subst h43; rfl
      by_cases h123 : c = 123
      · subst h123; rfl
      by_cases h62 : c = 62
      · subst h62; rfl
      by_cases h45 : c = 45
      · subst h45; rfl
      by_cases h47 : c = 47
      · subst h47; rfl
      by_cases h61 : c = 61
      · subst h61; rfl
      by_cases h33 : c = 33
      · subst h33; rfl
      by_cases h58 : c = 58
      · subst h58; rfl
      by_cases h46 : c = 46
      · subst h46; rfl
      by_cases h64 : c = 64
      · subst h64; rfl
      by_cases h125 : c = 125
      · subst h125; rfl
      by_cases h41 : c = 41
      · subst h41; rfl
      by_cases h42 : c = 42
      · subst h42; rfl
      by_cases h37 : c = 37
      · subst h37; rfl
      by_cases h92 : c = 92
      · subst h92; rfl
      by_cases h59 : c = 59
      · subst h59; rfl
      by_cases h44 : c = 44
      · subst h44; rfl
      by_cases h63 : c = 63
      · subst h63; rfl
      by_cases h36 : c = 36
      · subst h36; rfl
      by_cases h38 : c = 38
      · subst h38; rfl
      by_cases h94 : c = 94
      · subst h94; rfl
      by_cases h35 : c = 35
      · subst h35; rfl
      by_cases h95 : c = 95
      · subst h95; rfl
      have hf : (symbolsL.filter fun q => q.head? == some c) = [] := by
        rw [List.filter_eq_nil_iff]
        intro q hq
        have hh : ∀ q, q ∈ symbolsL → q.head? = some 40 ∨ q.head? = some 91 ∨ q.head? = some 124 ∨ q.head? = some 60 ∨ q.head? = some 93 ∨ q.head? = some 43 ∨ q.head? = some 123 ∨ q.head? = some 62 ∨ q.head? = some 45 ∨ q.head? = some 47 ∨ q.head? = some 61 ∨ q.head? = some 33 ∨ q.head? = some 58 ∨ q.head? = some 46 ∨ q.head? = some 64 ∨ q.head? = some 125 ∨ q.head? = some 41 ∨ q.head? = some 42 ∨ q.head? = some 37 ∨ q.head? = some 92 ∨ q.head? = some 59 ∨ q.head? = some 44 ∨ q.head? = some 63 ∨ q.head? = some 36 ∨ q.head? = some 38 ∨ q.head? = some 94 ∨ q.head? = some 35 ∨ q.head? = some 95 := by decide
        have := hh q hq
        intro hc
        have hc : q.head? = some c := by simpa using hc
        rw [hc] at this
        simp only [Option.some_inj] at this
        rcases this with h | h | h | h | h | h | h | h | h | h | h | h | h | h | h | h | h | h | h | h | h | h | h | h | h | h | h | h
        · exact h40 h
        · exact h91 h
        · exact h124 h
        · exact h60 h
        · exact h93 h
        · exact h43 h
        · exact h123 h
        · exact h62 h
        · exact h45 h
        · exact h47 h
        · exact h61 h
        · exact h33 h
        · exact h58 h
        · exact h46 h
        · exact h64 h
        · exact h125 h
        · exact h41 h
        · exact h42 h
        · exact h37 h
        · exact h92 h
        · exact h59 h
        · exact h44 h
        · exact h63 h
        · exact h36 h
        · exact h38 h
        · exact h94 h
        · exact h35 h
        · exact h95 h
      rw [hf]
      unfold symOf
      rw [if_neg h91, if_neg h124, if_neg h60, if_neg h40, if_neg h93, if_neg h43, if_neg h123, if_neg h62, if_neg h45, if_neg h47, if_neg h61, if_neg h33, if_neg h58, if_neg h46, if_neg h64, if_neg (by rintro (h | h | h | h | h | h | h | h | h | h | h | h | h) <;> contradiction)]
      rfl

theorem below_drewN' {B : Nat} {a w : World} (h : Below B a w) (n : Nat) : Below B a (w.drewN n) := ⟨h.os, h.tape, h.output, h.size, h.block⟩

/-- the exception, by the byte behind the parenthesis and the bar -/
theorem exc_spec (s : ByteArray) (i : Nat) : excB (rest s i) = (decide (firstP (rest s i) symbolsL = [40, 124]) && (if h : i + 2 < s.size then (s[i + 2].toNat == 126 || s[i + 2].toNat == 124) else false)) := by
  have hb : ∀ n : Nat, n < 256 → ∀ c : UInt8, (UInt8.ofNat n == c) = (c.toNat == n) := by
    intro n hn c
    rw [Bool.eq_iff_iff]
    simp only [beq_iff_eq]
    rw [← UInt8.toNat_inj]
    simp [Nat.mod_eq_of_lt hn]
    exact eq_comm
  have h40 : ∀ x : Bs, firstP (40 :: 124 :: x) symbolsL = [40, 124] := fun x => by
    rw [firstP_filter 40 (124 :: x) symbolsL symbolsL_ne]; rfl
  have hpre : firstP (rest s i) symbolsL = [40, 124] → [40, 124].isPrefixOf (rest s i) = true := by
    intro h
    have : ∀ ps : List Bs, firstP (rest s i) ps ≠ [] → (firstP (rest s i) ps).isPrefixOf (rest s i) = true := by
      intro ps
      induction ps with
      | nil => intro h; exact absurd rfl h
      | cons a r ih =>
        intro h
        unfold firstP at h ⊢
        by_cases ha : a.isPrefixOf (rest s i) = true
        · rw [if_pos ha]; exact ha
        · rw [if_neg ha] at h ⊢; exact ih h
    have h2 := this symbolsL (by rw [h]; decide)
    rw [h] at h2
    exact h2
  by_cases h2 : [40, 124].isPrefixOf (rest s i) = true
  · have hle := prefix2_le s i _ _ h2
    have e0 := rest_cons s i (by omega)
    have e1 := rest_cons s (i + 1) (by omega)
    rw [e0, e1] at h2
    simp only [List.isPrefixOf, Bool.and_eq_true, beq_iff_eq, and_true] at h2
    obtain ⟨a, b⟩ := h2
    have ef : rest s i = 40 :: 124 :: rest s (i + 2) := by rw [e0, e1, ← a, ← b]
    rw [ef, h40, decide_eq_true rfl, Bool.true_and]
    unfold excB
    by_cases h3 : i + 2 < s.size
    · rw [dif_pos h3, rest_cons s (i + 2) h3]
      have b1 := hb 126 (by decide) s[i + 2]
      have b2 := hb 124 (by decide) s[i + 2]
      rw [← b1, ← b2]
      simp [List.isPrefixOf]
    · rw [dif_neg h3, rest_end s (i + 2) (by omega)]
      rfl
  · have hne : ¬ firstP (rest s i) symbolsL = [40, 124] := fun h => h2 (hpre h)
    rw [decide_eq_false hne, Bool.false_and]
    unfold excB
    have hx : ∀ c : UInt8, [40, 124, c].isPrefixOf (rest s i) = false := by
      intro c
      cases hh : [40, 124, c].isPrefixOf (rest s i)
      · rfl
      · exfalso
        apply h2
        rw [List.isPrefixOf_iff_prefix] at hh ⊢
        exact List.IsPrefix.trans ⟨[c], rfl⟩ hh
    rw [hx, hx]; rfl

set_option maxHeartbeats 2000000 in
theorem rsym_loop (s : ByteArray) (hm : s.size ≤ 65536) (i : Nat) (hi : i ≤ s.size) (w : World) :
    Calls Tryz.prog 30 #[.string s, .int .i64 i] w fun e w' => e = .returned (.string (S (symB (rest s i)))) ∧ Below w.heap.size w w' := by
  go_enter Tryz.func30, Tryz.ntmps30
  go_wp2_with fail
  refine (symbols_ref _).mono ?_
  rintro e w0 ⟨rfl, hw0⟩
  have hb0 : w0.heap[w.heap.size]? = some (strBlock symbolsL) := by rw [← hw0]; exact heap_alloc_new _ _
  have HC := Lib.hid (fun k => str_cell hb0 k)
  have HB0 : Hid (Below w.heap.size w w0) := by rw [← hw0]; exact (Below.refl _ _).alloc (Nat.le_refl _) _
  clear hw0 hb0
  go_wp2_with fail
  go_loopw [5, 7] (fun t5 t7 wr => ∃ k : Nat, k ≤ 59 ∧ t7 = .int .i64 k ∧ t5 = .string (S (firstP (rest s i) (symbolsL.take k))) ∧ Hid (∃ m, wr = w0.drewN m)) (fun _ t7 _ => 59 - (intOf t7).toNat)
  case atStart => exact ⟨0, by omega, rfl, rfl, 0, rfl⟩
  case round =>
    obtain ⟨k, hk, rfl, rfl, hW⟩ := hrel
    obtain ⟨m, rfl⟩ := hW
    by_cases hlt : k < 59
    · have hc := HC.out k (by rw [symbolsL_len]; exact hlt)
      obtain ⟨hp1, hp4⟩ := symbolsL_at ⟨k, hlt⟩
      simp only at hp1 hp4
      have hb4 := best_le (rest s i) k
      have hnx := firstP_snoc (rest s i) (symbolsL.take k) (symbolsL.getD k []) (fun q hq => symbolsL_ne q (List.mem_of_mem_take hq))
      rw [← take_next k hlt] at hnx
      have hbl := best_long (rest s i) k hlt
      have hpx := prefix_take (symbolsL.getD k []) (rest s i)
      rw [rest_length] at hpx
      generalize firstP (rest s i) (symbolsL.take k) = q at *
      generalize symbolsL.getD k [] = p at *
      have HNX : Hid (firstP (rest s i) (symbolsL.take (k + 1)) = if q ≠ [] then q else if p.isPrefixOf (rest s i) then p else []) := hnx
      clear hnx
      have zp : (S p).size = p.length := rfl
      have zq : (S q).size = q.length := rfl
      by_cases h1 : i + p.length ≤ s.size
      · have hext : (s.extract i (i + p.length)).data.toList = (rest s i).take p.length := by
          unfold rest
          rw [ByteArray.data_extract, Array.toList_extract, List.extract_eq_take_drop]
          rw [Nat.add_sub_cancel_left]
        cases hp : p.isPrefixOf (rest s i)
        · have c2 : ((s.extract i (i + (S p).size)).toList == (S p).toList) = false := by
            rw [ByteArray.toList_eq, ByteArray.toList_eq, S_toList, zp, hext]
            rw [hp, decide_eq_true (by omega), Bool.true_and] at hpx
            exact hpx.symm
          have hz : Hid (firstP (rest s i) (symbolsL.take (k + 1)) = q) := by
            have hnx := HNX.out
            rw [hp] at hnx
            unfold Hid
            rw [hnx]
            by_cases hq : q = []
            · rw [if_neg (by simp [hq]), if_neg (by decide), hq]
            · rw [if_pos hq]
          have g1 : (i : Int) + (S p).size ≤ (s.size : Int) := by rw [zp]; omega
          have g4 : ((S p).size : Int) ≤ 4 := by rw [zp]; omega
          generalize S p = t at *
          clear hbl hpx zp zq hp1 hp4 h1 hp hext HNX hb4
          go_wp2
          have s1 : IntKind.i64.wrap ((i : Int) + (t.size : Int)) = (i : Int) + (t.size : Int) := IntWalk.i64_in _ (by omega)
          have s2 : decide ((i : Int) + (t.size : Int) ≤ (s.size : Int)) = true := by simp; omega
          have s3 : (0 : Int) ≤ (i : Int) + (t.size : Int) := by omega
          have s4 : ((i : Int) + (t.size : Int)).toNat = i + t.size := by omega
          go_quiet (fail)
          clear s1 s2 s3 s4
          go_wp2
          go_roundw
          case rel => exact ⟨k + 1, by omega, by go_num, by rw [hz.out], _, rfl⟩
          case measure => simp [intOf]; omega
        · have c2 : ((s.extract i (i + (S p).size)).toList == (S p).toList) = true := by
            rw [ByteArray.toList_eq, ByteArray.toList_eq, S_toList, zp, hext]
            rw [hp, decide_eq_true (by omega), Bool.true_and] at hpx
            exact hpx.symm
          have g1 : (i : Int) + (S p).size ≤ (s.size : Int) := by rw [zp]; omega
          have g4 : ((S p).size : Int) ≤ 4 := by rw [zp]; omega
          by_cases hq : q = []
          · have hz : Hid (firstP (rest s i) (symbolsL.take (k + 1)) = p) := by
              have hnx := HNX.out
              rw [hp, if_neg (by simp [hq]), if_pos rfl] at hnx
              exact hnx
            have c3 : decide ((S q).size < (S p).size) = true := by rw [zp, zq, hq]; simp; omega
            have HZP : Hid (Value.string (S p) = Value.string (S (firstP (rest s i) (symbolsL.take (k + 1))))) := by unfold Hid; rw [hz.out]
            generalize S p = t at *
            generalize S q = u at *
            clear hbl hpx zp zq hp1 hp4 h1 hp hext HNX hb4 hz hq
            go_wp2
            have s1 : IntKind.i64.wrap ((i : Int) + (t.size : Int)) = (i : Int) + (t.size : Int) := IntWalk.i64_in _ (by omega)
            have s2 : decide ((i : Int) + (t.size : Int) ≤ (s.size : Int)) = true := by simp; omega
            have s3 : (0 : Int) ≤ (i : Int) + (t.size : Int) := by omega
            have s4 : ((i : Int) + (t.size : Int)).toNat = i + t.size := by omega
            go_quiet (fail)
            clear s1 s2 s3 s4
            go_wp2
            go_roundw
            case rel => exact ⟨k + 1, by omega, by go_num, HZP.out, _, rfl⟩
            case measure => simp [intOf]; omega
          · have hz : Hid (firstP (rest s i) (symbolsL.take (k + 1)) = q) := by
              have hnx := HNX.out
              rw [if_pos hq] at hnx
              exact hnx
            have c3 : decide ((S q).size < (S p).size) = false := by
              have := hbl hq
              rw [zp, zq]; simp; omega
            have HZP : Hid (Value.string (S q) = Value.string (S (firstP (rest s i) (symbolsL.take (k + 1))))) := by unfold Hid; rw [hz.out]
            generalize S p = t at *
            generalize S q = u at *
            clear hbl hpx zp zq hp1 hp4 h1 hp hext HNX hb4 hz hq
            go_wp2
            have s1 : IntKind.i64.wrap ((i : Int) + (t.size : Int)) = (i : Int) + (t.size : Int) := IntWalk.i64_in _ (by omega)
            have s2 : decide ((i : Int) + (t.size : Int) ≤ (s.size : Int)) = true := by simp; omega
            have s3 : (0 : Int) ≤ (i : Int) + (t.size : Int) := by omega
            have s4 : ((i : Int) + (t.size : Int)).toNat = i + t.size := by omega
            go_quiet (fail)
            clear s1 s2 s3 s4
            go_wp2
            go_roundw
            case rel => exact ⟨k + 1, by omega, by go_num, HZP.out, _, rfl⟩
            case measure => simp [intOf]; omega
      · have hz : Hid (firstP (rest s i) (symbolsL.take (k + 1)) = q) := by
          have : p.isPrefixOf (rest s i) = false := by rw [hpx, decide_eq_false (by omega)]; rfl
          have hnx := HNX.out
          rw [this] at hnx
          unfold Hid
          rw [hnx]
          by_cases hq : q = []
          · rw [if_neg (by simp [hq]), if_neg (by decide), hq]
          · rw [if_pos hq]
        have HQ := Lib.hid zq
        have g1 : (s.size : Int) < (i : Int) + (S p).size := by rw [zp]; omega
        have g4 : ((S p).size : Int) ≤ 4 := by rw [zp]; omega
        generalize S p = t at *
        clear hbl hpx zp zq hp1 hp4 h1
        go_wp2
        have s1 : IntKind.i64.wrap ((i : Int) + (t.size : Int)) = (i : Int) + (t.size : Int) := IntWalk.i64_in _ (by omega)
        have s2 : decide ((i : Int) + (t.size : Int) ≤ (s.size : Int)) = false := by simp; omega
        go_quiet (fail)
        clear s1 s2
        go_wp2
        go_roundw
        case rel => exact ⟨k + 1, by omega, by go_num, by rw [hz.out], _, rfl⟩
        case measure => simp [intOf]; omega
    · obtain rfl : k = 59 := by omega
      have ht : symbolsL.take 59 = symbolsL := List.take_of_length_le (by rw [symbolsL_len]; omega)
      rw [ht]
      have hsy := symB_spec (rest s i)
      have hex := exc_spec s i
      have hB := below_drewN' HB0.out m
      generalize firstP (rest s i) symbolsL = q at *
      by_cases hq : q = [40, 124]
      · have c1 : ((S q).toList == [40, 124]) = true := by rw [ByteArray.toList_eq, S_toList, hq]; rfl
        rw [decide_eq_true hq, Bool.true_and] at hex
        have HQ := Lib.hid hq
        have HBB := Lib.hid hB
        have HSY := Lib.hid hsy
        have hqs : Hid (S q = ⟨#[40, 124]⟩) := by unfold Hid; rw [hq]
        by_cases h2 : i + 2 < s.size
        · rw [dif_pos h2] at hex
          have h2i : (i : Int) + 2 < (s.size : Int) := by omega
          have h3 : (s[i + 2].toNat = 126) ∨ (s[i + 2].toNat ≠ 126 ∧ s[i + 2].toNat = 124) ∨ (s[i + 2].toNat ≠ 126 ∧ s[i + 2].toNat ≠ 124) := by omega
          rcases h3 with h3 | ⟨h3, h4⟩ | ⟨h3, h4⟩
          · have g1 : ((s[i + 2].toNat : Int) == 126) = true := beq_iff_eq.2 (by omega)
            have HEX : Hid (excB (rest s i) = true) := by unfold Hid; rw [hex, h3]; rfl
            clear hex hsy hq hB h3
            generalize S q = u at *
            go_wp2
            go_ret
            exact ⟨ret_string (by rw [HSY.out, HEX.out]; rfl), HBB.out⟩
          · have g1 : ((s[i + 2].toNat : Int) == 126) = false := beq_eq_false_iff_ne.2 (by omega)
            have g2 : ((s[i + 2].toNat : Int) == 124) = true := beq_iff_eq.2 (by omega)
            have HEX : Hid (excB (rest s i) = true) := by unfold Hid; rw [hex, h4]; rfl
            clear hex hsy hq hB h3 h4
            generalize S q = u at *
            go_wp2
            go_ret
            exact ⟨ret_string (by rw [HSY.out, HEX.out]; rfl), HBB.out⟩
          · have g1 : ((s[i + 2].toNat : Int) == 126) = false := beq_eq_false_iff_ne.2 (by omega)
            have g2 : ((s[i + 2].toNat : Int) == 124) = false := beq_eq_false_iff_ne.2 (by omega)
            have HEX : Hid (excB (rest s i) = false) := by unfold Hid; rw [hex]; simp [h3, h4]
            have HU : Hid (S (symB (rest s i)) = S q) := by unfold Hid; rw [HSY.out, HEX.out]; rfl
            clear hex hsy hq hB h3 h4
            generalize S q = u at *
            go_wp2
            go_ret
            exact ⟨ret_string HU.out.symm, HBB.out⟩
        · rw [dif_neg h2] at hex
          have h2i : (s.size : Int) ≤ (i : Int) + 2 := by omega
          have HU : Hid (S (symB (rest s i)) = S q) := by unfold Hid; rw [HSY.out, hex]; rfl
          clear hex hsy hq hB
          generalize S q = u at *
          go_wp2
          go_ret
          exact ⟨ret_string HU.out.symm, HBB.out⟩
      · have c1 : ((S q).toList == [40, 124]) = false := by rw [ByteArray.toList_eq, S_toList]; exact beq_eq_false_iff_ne.2 hq
        rw [decide_eq_false hq, Bool.false_and] at hex
        have HBB := Lib.hid hB
        have HU : Hid (S (symB (rest s i)) = S q) := by unfold Hid; rw [hsy, hex]; rfl
        clear hex hsy hq hB
        generalize S q = u at *
        go_wp2
        go_ret
        exact ⟨ret_string HU.out.symm, HBB.out⟩

end Go.Proofs.YtkjjagmpnnnimaaGreatDoor
