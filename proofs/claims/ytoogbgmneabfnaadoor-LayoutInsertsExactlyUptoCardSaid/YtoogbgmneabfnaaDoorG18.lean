/- What the reference's letter, digit, wordEnd, in, Keywords and integer return. What the reference's Name and symbolAt return. -/
import Derived.Test.YtoogbgmneabfnaaDoorG5
namespace Go.Proofs.YtoogbgmneabfnaaDoor
open Go.RowKit M

set_option maxHeartbeats 400000 in
theorem rletter_any (c : UInt8) (w : World) :
    Calls Tryd.prog 46 #[.int .u8 c.toNat] w fun e w' => e = .returned (.bool (letterB c)) ∧ w = w' := by
  go_enter Tryd.func46, Tryd.ntmps46
  go_wp2
  all_goals
    go_ret
    exact ⟨ret_bool (by unfold letterB; first | (rw [Bool.eq_iff_iff]; simp; omega) | (simp; omega)), rfl⟩

set_option maxHeartbeats 400000 in
theorem rdigit_any (c : UInt8) (w : World) :
    Calls Tryd.prog 47 #[.int .u8 c.toNat] w fun e w' => e = .returned (.bool (digitB c)) ∧ w = w' := by
  go_enter Tryd.func47, Tryd.ntmps47
  go_wp2
  all_goals
    go_ret
    exact ⟨ret_bool (by unfold digitB; first | (rw [Bool.eq_iff_iff]; simp; omega) | (simp; omega)), rfl⟩

theorem cont_cases (c : UInt8) : (contB c = true ∧ (letterB c = true ∨ (letterB c = false ∧ digitB c = true) ∨ (letterB c = false ∧ digitB c = false ∧ ((c.toNat : Int) == 95) = true) ∨ (letterB c = false ∧ digitB c = false ∧ ((c.toNat : Int) == 95) = false ∧ ((c.toNat : Int) == 39) = true))) ∨
    (contB c = false ∧ letterB c = false ∧ digitB c = false ∧ ((c.toNat : Int) == 95) = false ∧ ((c.toNat : Int) == 39) = false) := by
  have e1 : ((c.toNat : Int) == 95) = (c.toNat == 95) := by rw [Bool.eq_iff_iff]; simp; omega
  have e2 : ((c.toNat : Int) == 39) = (c.toNat == 39) := by rw [Bool.eq_iff_iff]; simp; omega
  rw [e1, e2]
  unfold contB
  cases letterB c <;> cases digitB c <;> cases (c.toNat == 95) <;> cases (c.toNat == 39) <;> simp

set_option maxHeartbeats 1000000 in
theorem rwordEnd_any (s : ByteArray) (hm : s.size ≤ 140737488355328) (i : Nat) (hi : i ≤ s.size) (w : World) :
    Calls Tryd.prog 49 #[.string s, .int .i64 i] w fun e w' => e = .returned (.int .i64 (i + wlen (rest s i) : Nat)) ∧ w = w' := by
  obtain ⟨R, hg⟩ : ∃ R, R = i + wlen (rest s i) := ⟨_, rfl⟩
  rw [← hg]
  have hR : Hid (R = i + wlen (rest s i)) := hg
  clear hg
  go_enter Tryd.func49, Tryd.ntmps49
  go_wp2
  go_loop [1] (fun t => ∃ k : Nat, i ≤ k ∧ k ≤ s.size ∧ t = .int .i64 k ∧ Hid (R = k + wlen (rest s k))) (fun t => s.size - (intOf t).toNat)
  case atStart => exact ⟨i, by omega, by omega, rfl, hR⟩
  case round =>
    obtain ⟨k, hk1, hk, rfl, hN⟩ := hrel
    by_cases hlt : k < s.size
    · have hr := rest_cons s k hlt
      rcases cont_cases s[k] with ⟨hc, hcs⟩ | ⟨hc, h1, h2, h3, h4⟩
      · have hz : Hid (R = (k + 1) + wlen (rest s (k + 1))) := by
          unfold Hid; rw [hN.out, hr, wlen_cons, hc]; simp; omega
        clear hr hN hc hR
        rcases hcs with h1 | ⟨h1, h2⟩ | ⟨h1, h2, h3⟩ | ⟨h1, h2, h3, h4⟩
        all_goals
          go_wp2_with (first | (go_at_call 46; refine (rletter_any _ _).mono ?_; rintro e w' ⟨rfl, rfl⟩) | (go_at_call 47; refine (rdigit_any _ _).mono ?_; rintro e w' ⟨rfl, rfl⟩))
          go_round
          case rel => exact ⟨k + 1, by omega, by omega, by go_num, hz⟩
          case measure => simp [intOf]; omega
      · have hz : Hid (R = k) := by
          unfold Hid; rw [hN.out, hr, wlen_cons, hc]; rfl
        clear hr hN hc hR
        go_wp2_with (first | (go_at_call 46; refine (rletter_any _ _).mono ?_; rintro e w' ⟨rfl, rfl⟩) | (go_at_call 47; refine (rdigit_any _ _).mono ?_; rintro e w' ⟨rfl, rfl⟩))
        go_ret
        exact ⟨ret_int (by rw [hz.out]), rfl⟩
    · have hz : Hid (R = k) := by
        unfold Hid; rw [hN.out, rest_end s k (by omega)]; rfl
      clear hN hR
      go_wp2
      go_ret
      exact ⟨ret_int (by rw [hz.out]), rfl⟩

theorem contains_step (ls : List Bs) (x : Bs) (k : Nat) (h : k < ls.length) : (ls.drop k).contains x = ((ls.getD k [] == x) || (ls.drop (k + 1)).contains x) := by
  have e : ls.getD k [] = ls[k] := by simp [h]
  rw [List.drop_eq_getElem_cons h, e, List.contains_cons, Bool.beq_comm]

set_option maxHeartbeats 1000000 in
theorem rin_any (ls : List Bs) (n : Nat) (hn : n = ls.length) (hm : n ≤ 1000) (s : ByteArray) (b : Nat) (w : World) (hb : w.heap[b]? = some (strBlock ls)) :
    Calls Tryd.prog 39 #[.slice (some ⟨b, 0, none⟩) n n, .string s] w fun e w' => e = .returned (.bool (ls.contains s.data.toList)) ∧ w = w' := by
  have HC := Lib.hid (fun k => str_cell hb k)
  have HN := Lib.hid hn
  have hR : Hid (ls.contains s.data.toList = (ls.drop 0).contains s.data.toList) := rfl
  generalize ls.contains s.data.toList = R at *
  clear hb hn
  go_enter Tryd.func39, Tryd.ntmps39
  go_wp2
  go_loop [5] (fun t => ∃ k : Nat, k ≤ n ∧ t = .int .i64 k ∧ Hid (R = (ls.drop k).contains s.data.toList)) (fun t => n - (intOf t).toNat)
  case atStart => exact ⟨0, by omega, rfl, hR⟩
  case round =>
    clear hR
    obtain ⟨k, hk, rfl, hN⟩ := hrel
    by_cases hlt : k < n
    · have hs := contains_step ls s.data.toList k (by rw [← HN.out]; exact hlt)
      have hc := HC.out k (by rw [← HN.out]; exact hlt)
      cases hp : (ls.getD k [] == s.data.toList)
      · rw [hp, Bool.false_or] at hs
        have hz : Hid (R = (ls.drop (k + 1)).contains s.data.toList) := hN.out.trans hs
        generalize ls.getD k [] = q at *
        have g0 : ((S q).toList == s.toList) = false := by rw [ByteArray.toList_eq, ByteArray.toList_eq, S_toList]; exact hp
        generalize S q = t at *
        clear hs hN hp
        go_wp2
        go_round
        case rel => exact ⟨k + 1, by omega, by go_num, hz⟩
        case measure => simp [intOf]; omega
      · rw [hp, Bool.true_or] at hs
        have hz : Hid (R = true) := hN.out.trans hs
        generalize ls.getD k [] = q at *
        have g0 : ((S q).toList == s.toList) = true := by rw [ByteArray.toList_eq, ByteArray.toList_eq, S_toList]; exact hp
        generalize S q = t at *
        clear hs hN hp
        go_wp2
        go_ret
        exact ⟨ret_bool (by rw [hz.out]), rfl⟩
    · have hz : Hid (R = false) := by
        unfold Hid; rw [hN.out, List.drop_eq_nil_of_le (by rw [← HN.out]; omega)]; rfl
      clear hN
      go_wp2
      go_ret
      exact ⟨ret_bool (by rw [hz.out]), rfl⟩

set_option maxHeartbeats 400000 in
theorem rkeywords_any (w : World) :
    Calls Tryd.prog 40 #[] w fun e w' => e = .returned (.slice (some ⟨w.heap.size, 0, none⟩) 25 25) ∧ w.alloc (strBlock keywords) = w' := by
  go_enter Tryd.func40, Tryd.ntmps40
  go_wp2
  go_ret
  exact ⟨rfl, rfl⟩

theorem intVal_split (s : ByteArray) (k : Nat) : intVal s.data.toList = (rest s k).foldl (fun a c => 10 * a + (c.toNat - 48)) (intVal (s.data.toList.take k)) := by
  unfold intVal rest
  rw [← List.foldl_append, List.take_append_drop]
theorem intVal_next (s : ByteArray) (k : Nat) (h : k < s.size) : intVal (s.data.toList.take (k + 1)) = 10 * intVal (s.data.toList.take k) + (s[k].toNat - 48) := by
  have e : s.data.toList.take (k + 1) = s.data.toList.take k ++ [s[k]] := by
    rw [List.take_succ_eq_append_getElem (by simpa using h)]; rfl
  unfold intVal
  rw [e, List.foldl_append]; rfl
theorem intVal_le (s : ByteArray) (k : Nat) : intVal (s.data.toList.take k) ≤ intVal s.data.toList := by
  rw [intVal_split s k]; exact foldl_ge _ _

/-- what integer returns of a word: its number, or its error -/
def intV (t : TR) : Value := .tuple #[.int .i64 t.num, .int .i64 t.err]

set_option maxHeartbeats 1000000 in
theorem rinteger_bad (s : ByteArray) (hm : s.size ≤ 140737488355328) (hd : allDigits s.data.toList = false) (w : World) :
    Calls Tryd.prog 50 #[.string s] w fun e w' => e = .returned (.tuple #[.int .i64 0, .int .i64 2]) ∧ w = w' := by
  have hD : Hid (allDigits (rest s 0) = false) := hd
  clear hd
  go_enter Tryd.func50, Tryd.ntmps50
  go_wp2
  go_loop [4] (fun t => ∃ k : Nat, k ≤ s.size ∧ t = .int .i64 k ∧ Hid (allDigits (rest s k) = false)) (fun t => s.size - (intOf t).toNat)
  case atStart => exact ⟨0, by omega, rfl, hD⟩
  case round =>
    clear hD
    obtain ⟨k, hk, rfl, hK⟩ := hrel
    have hlt : k < s.size := by
      rcases Nat.lt_or_ge k s.size with h | h
      · exact h
      · have := hK.out; rw [rest_end s k h] at this; exact absurd this (by decide)
    have hs := digits_step s k hlt
    cases hc : digitB s[k]
    · clear hs hK
      go_wp2_with (go_at_call 47; refine (rdigit_any _ _).mono ?_; rintro e w' ⟨rfl, rfl⟩)
      go_ret2
      exact ⟨rfl, rfl⟩
    · have hz : Hid (allDigits (rest s (k + 1)) = false) := by
        have := hK.out; rw [hs, hc] at this; unfold Hid; simpa using this
      clear hs hK
      go_wp2_with (go_at_call 47; refine (rdigit_any _ _).mono ?_; rintro e w' ⟨rfl, rfl⟩)
      go_round
      case rel => exact ⟨k + 1, by omega, by go_num, hz⟩
      case measure => simp [intOf]; omega

set_option maxHeartbeats 1000000 in
theorem rinteger_zero (s : ByteArray) (hm : s.size ≤ 140737488355328) (hp : 1 < s.size) (hd : allDigits s.data.toList = true) (h0 : s[0].toNat = 48) (w : World) :
    Calls Tryd.prog 50 #[.string s] w fun e w' => e = .returned (.tuple #[.int .i64 0, .int .i64 2]) ∧ w = w' := by
  have hD : Hid (allDigits (rest s 0) = true) := hd
  have hv := cast_of _ _ h0
  clear hd h0
  go_enter Tryd.func50, Tryd.ntmps50
  go_wp2
  go_loop [4] (fun t => ∃ k : Nat, k ≤ s.size ∧ t = .int .i64 k ∧ Hid (allDigits (rest s k) = true)) (fun t => s.size - (intOf t).toNat)
  case atStart => exact ⟨0, by omega, rfl, hD⟩
  case round =>
    clear hD
    obtain ⟨k, hk, rfl, hK⟩ := hrel
    by_cases hlt : k < s.size
    · have hs := digits_step s k hlt
      have hc : digitB s[k] = true := by
        have := hK.out; rw [hs] at this; simp only [Bool.and_eq_true] at this; exact this.1
      have hz : Hid (allDigits (rest s (k + 1)) = true) := by
        have := hK.out; rw [hs] at this; simp only [Bool.and_eq_true] at this; exact this.2
      clear hs hK
      go_wp2_with (go_at_call 47; refine (rdigit_any _ _).mono ?_; rintro e w' ⟨rfl, rfl⟩)
      go_round
      case rel => exact ⟨k + 1, by omega, by go_num, hz⟩
      case measure => simp [intOf]; omega
    · clear hK
      go_wp2
      go_ret2
      exact ⟨rfl, rfl⟩

def numV (n : Nat) : Value := if n < 9223372036854775808 then .tuple #[.int .i64 n, .int .i64 0] else .tuple #[.int .i64 0, .int .i64 9]
theorem numV_lt {n : Nat} (h : n ≤ 9223372036854775807) : numV n = .tuple #[.int .i64 n, .int .i64 0] := by unfold numV; rw [if_pos (by omega)]
theorem numV_ge {n : Nat} (h : ¬ n ≤ 9223372036854775807) : numV n = .tuple #[.int .i64 0, .int .i64 9] := by unfold numV; rw [if_neg (by omega)]
theorem int_cast_eq {a : Int} {n : Nat} (h : a = n) : Value.int .i64 a = .int .i64 n := by rw [h]

set_option maxHeartbeats 2000000 in
theorem rinteger_num (s : ByteArray) (hm : s.size ≤ 140737488355328) (hp : 0 < s.size) (hd : allDigits s.data.toList = true) (h0 : s.size = 1 ∨ s[0].toNat ≠ 48) (w : World) :
    Calls Tryd.prog 50 #[.string s] w fun e w' => e = .returned (numV (intVal s.data.toList)) ∧ w = w' := by
  have hD : Hid (allDigits (rest s 0) = true) := hd
  have h1 : (decide ((1 : Int) < (s.size : Int)) = false) ∨ ((1 : Int) < (s.size : Int) ∧ ((s[0].toNat : Int) == 48) = false) := by
    by_cases h : s.size = 1
    · left; simp; omega
    · right
      rcases h0 with h0 | h0
      · exact absurd h0 h
      · exact ⟨by omega, beq_eq_false_iff_ne.2 (by omega)⟩
  clear hd h0
  rcases h1 with h1 | ⟨h1, h2⟩
  all_goals
    go_enter Tryd.func50, Tryd.ntmps50
    go_wp2
    go_loop [4] (fun t => ∃ k : Nat, k ≤ s.size ∧ t = .int .i64 k ∧ Hid (allDigits (rest s k) = true)) (fun t => s.size - (intOf t).toNat)
    case atStart => exact ⟨0, by omega, rfl, hD⟩
    case round =>
      obtain ⟨k, hk, rfl, hK⟩ := hrel
      by_cases hlt : k < s.size
      · have hs := digits_step s k hlt
        have hc : digitB s[k] = true := by
          have := hK.out; rw [hs] at this; simp only [Bool.and_eq_true] at this; exact this.1
        have hz : Hid (allDigits (rest s (k + 1)) = true) := by
          have := hK.out; rw [hs] at this; simp only [Bool.and_eq_true] at this; exact this.2
        clear hs hK
        go_wp2_with (go_at_call 47; refine (rdigit_any _ _).mono ?_; rintro e w' ⟨rfl, rfl⟩)
        go_round
        case rel => exact ⟨k + 1, by omega, by go_num, hz⟩
        case measure => simp [intOf]; omega
      · clear hK
        go_wp2
        go_loop [5, 6] (fun t5 t6 => ∃ (j V : Nat), j ≤ s.size ∧ t6 = .int .i64 j ∧ t5 = .int .i64 V ∧ Hid (V ≤ 9223372036854775807 ∧ V = intVal (s.data.toList.take j) ∧ allDigits (rest s j) = true)) (fun _ t6 => s.size - (intOf t6).toNat)
        case atStart => exact ⟨0, 0, by omega, rfl, rfl, by decide, rfl, hD.out⟩
        case round =>
          obtain ⟨j, V, hj, rfl, rfl, hV⟩ := hrel
          by_cases hlj : j < s.size
          · have hs := digits_step s j hlj
            have hc : digitB s[j] = true := by
              have := hV.out.2.2; rw [hs] at this; simp only [Bool.and_eq_true] at this; exact this.1
            have hb : 48 ≤ (s[j].toNat : Int) ∧ (s[j].toNat : Int) ≤ 57 := by
              unfold digitB at hc; simp at hc; omega
            obtain ⟨hb1, hb2⟩ := hb
            clear hs hc
            have hnx := intVal_next s j hlj
            have hle := intVal_le s (j + 1)
            have HNX := Lib.hid hnx
            have HLE := Lib.hid hle
            have HDN : Hid (allDigits (rest s (j + 1)) = true) := by
              have := hV.out.2.2; rw [digits_step s j hlj] at this; simp only [Bool.and_eq_true] at this; exact this.2
            clear hnx hle
            go_wp2
            · have hlt2 : (9223372036854775807 - ((s[j].toNat : Int) - 48)) / 10 < (V : Int) := by assumption
              have hge : ¬ intVal s.data.toList ≤ 9223372036854775807 := by
                have a1 := HNX.out
                have a2 := HLE.out
                have a3 := hV.out.2.1
                rw [a1, ← a3] at a2
                clear a1 a3
                omega
              go_ret2
              exact ⟨by rw [numV_ge hge]; rfl, rfl⟩
            · have hle2 : (V : Int) ≤ (9223372036854775807 - ((s[j].toNat : Int) - 48)) / 10 := by assumption
              have a1 := HNX.out
              have a3 := hV.out.2.1
              rw [← a3] at a1
              refine ⟨⟨j + 1, 10 * V + (s[j].toNat - 48), by omega, by go_num, int_cast_eq (by omega), ⟨by omega, a1.symm, HDN.out⟩⟩, ?_⟩
              simp [intOf]; omega
          · have hf : Hid (V = intVal s.data.toList) := by
              have := hV.out.2.1; rw [List.take_of_length_le (by simp; omega)] at this; exact this
            have he : Hid (numV (intVal s.data.toList) = .tuple #[.int .i64 V, .int .i64 0]) := by
              unfold Hid
              rw [← hf.out, numV_lt hV.out.1]
            go_wp2
            go_ret2
            exact ⟨by rw [he.out]; rfl, rfl⟩

theorem rinteger_any (s : ByteArray) (hm : s.size ≤ 140737488355328) (hp : 0 < s.size) (w : World) :
    Calls Tryd.prog 50 #[.string s] w fun e w' => e = .returned (intV (intR s.data.toList)) ∧ w = w' := by
  have hh : (s.data.toList.head? = some 48) ↔ s[0].toNat = 48 := by
    rw [head?_of s hp, Option.some_inj]; exact eq_of_toNat _ 48 (by decide)
  have hz : s.data.toList.length = s.size := by simp
  unfold intR
  cases hd : allDigits s.data.toList
  · have e : (if s.data.toList.head? = some 48 ∧ s.data.toList ≠ [48] then (⟨0, 0, [], 2⟩ : TR) else if false = false then ⟨0, 0, [], 2⟩ else if intVal s.data.toList < 9223372036854775808 then ⟨2, (intVal s.data.toList : Int), [], 0⟩ else ⟨0, 0, [], 9⟩) = ⟨0, 0, [], 2⟩ := by
      split <;> simp
    rw [e]
    exact rinteger_bad s hm hd w
  · by_cases h1 : s[0].toNat = 48 ∧ 1 < s.size
    · rw [if_pos ⟨hh.2 h1.1, fun e => by rw [e] at hz; simp at hz; omega⟩]
      exact rinteger_zero s hm h1.2 hd h1.1 w
    · have hn : ¬ (s.data.toList.head? = some 48 ∧ s.data.toList ≠ [48]) := by
        rintro ⟨a, b⟩
        have a1 := hh.1 a
        have hs1 : s.size = 1 := by
          rcases Nat.lt_or_ge 1 s.size with h | h
          · exact absurd ⟨a1, h⟩ h1
          · omega
        apply b
        have hr : rest s 1 = [] := rest_end s 1 (by omega)
        rw [head_of s hp, hr]
        have : s[0] = 48 := (eq_of_toNat s[0] 48 (by decide)).2 a1
        rw [this]
      rw [if_neg hn, if_neg (by decide)]
      have := rinteger_num s hm hp hd (by
        by_cases h : s.size = 1
        · exact .inl h
        · exact .inr (fun e => h1 ⟨e, by omega⟩)) w
      unfold numV at this
      by_cases hi : intVal s.data.toList < 9223372036854775808
      · rw [if_pos hi] at this ⊢; exact this
      · rw [if_neg hi] at this ⊢; exact this

end Go.Proofs.YtoogbgmneabfnaaDoor

namespace Go.Proofs.YtoogbgmneabfnaaDoor
open Go.RowKit M

/-- is the text a name -/
def nameB (l : Bs) : Bool := decide (0 < l.length) && (decide (l.length ≤ 64) && ((l.head?.map letterB == some true) && (decide (wlen l = l.length) && !kwB l)))

set_option maxHeartbeats 1000000 in
theorem rname_core (s : ByteArray) (hm : s.size ≤ 140737488355328) (hp : 0 < s.size) (a b c : Bool) (w : World) (h1 : decide (s.size ≤ 64) = a) (h2 : letterB s[0] = b) (h3 : decide (wlen s.data.toList = s.size) = c) :
    Calls Tryd.prog 38 #[.string s] w fun e w' => e = .returned (.bool (a && (b && (c && !kwB s.data.toList)))) ∧ Below w.heap.size w w' := by
  obtain ⟨e1, e2⟩ := notEmpty s hp
  have HE := fun W => rwordEnd_any s hm 0 (by omega) W
  rw [rest_zero, Nat.zero_add] at HE
  have HE := Lib.hid HE
  have HK := Lib.hid (fun b W hb => rin_any keywords 25 rfl (by decide) s b W hb)
  cases a
  · have g1 : decide ((s.size : Int) ≤ 64) = false := by simp at h1 ⊢; omega
    clear h1 h2 h3
    go_enter Tryd.func38, Tryd.ntmps38
    go_wp2
    go_ret
    exact ⟨rfl, Below.refl _ _⟩
  · have g1 : (s.size : Int) ≤ 64 := by simp at h1; omega
    clear h1
    cases b
    · clear h3
      go_enter Tryd.func38, Tryd.ntmps38
      go_wp2_with (go_at_call 46; refine (rletter_any _ _).mono ?_; rintro e w' ⟨rfl, rfl⟩)
      go_ret
      exact ⟨rfl, Below.refl _ _⟩
    · generalize wlen s.data.toList = N at *
      cases c
      · have g3 : ((N : Int) == (s.size : Int)) = false := by simp at h3; exact beq_eq_false_iff_ne.2 (by omega)
        clear h3
        go_enter Tryd.func38, Tryd.ntmps38
        go_wp2_with fail
        refine (rletter_any _ _).mono ?_
        rintro e w' ⟨rfl, rfl⟩
        go_wp2_with fail
        refine (HE.out _).mono ?_
        rintro e w' ⟨rfl, rfl⟩
        go_wp2
        go_ret
        exact ⟨rfl, Below.refl _ _⟩
      · have g3 : ((N : Int) == (s.size : Int)) = true := by simp at h3; exact beq_iff_eq.2 (by omega)
        clear h3
        go_enter Tryd.func38, Tryd.ntmps38
        go_wp2_with fail
        refine (rletter_any _ _).mono ?_
        rintro e w' ⟨rfl, rfl⟩
        go_wp2_with fail
        refine (HE.out _).mono ?_
        rintro e w' ⟨rfl, rfl⟩
        go_wp2_with fail
        refine (rkeywords_any _).mono ?_
        rintro e w' ⟨rfl, rfl⟩
        go_wp2_with fail
        refine (HK.out _ _ (heap_alloc_new w _)).mono ?_
        rintro e w' ⟨rfl, rfl⟩
        have HKB : Hid (keywords.contains s.data.toList = kwB s.data.toList) := rfl
        generalize keywords.contains s.data.toList = kb at *
        cases kb
        all_goals
          go_wp2
          go_ret
          exact ⟨ret_bool (by rw [← HKB.out]; rfl), (Below.refl _ _).alloc (Nat.le_refl _) _⟩

theorem rname_empty (w : World) : Calls Tryd.prog 38 #[.string ⟨#[]⟩] w fun e w' => e = .returned (.bool false) ∧ Below w.heap.size w w' := by
  go_enter Tryd.func38, Tryd.ntmps38
  go_wp2
  go_ret
  exact ⟨rfl, Below.refl _ _⟩

theorem rname_any (s : ByteArray) (hm : s.size ≤ 140737488355328) (w : World) :
    Calls Tryd.prog 38 #[.string s] w fun e w' => e = .returned (.bool (nameB s.data.toList)) ∧ Below w.heap.size w w' := by
  by_cases h0 : s.size = 0
  · obtain rfl := size_zero s h0
    exact rname_empty w
  have hp : 0 < s.size := by omega
  have hz : s.data.toList.length = s.size := by simp
  have := rname_core s hm hp _ _ _ w rfl rfl rfl
  unfold nameB
  rw [hz, head?_of s hp]
  have e : (Option.map letterB (some s[0]) == some true) = letterB s[0] := by cases h : letterB s[0] <;> simp [h]
  rw [e, decide_eq_true hp, Bool.true_and]
  exact this

end Go.Proofs.YtoogbgmneabfnaaDoor
