/- What the lexer's small functions return: letters, digits, words, prefixes. No conditions but that a string has a length. -/
import Derived.Test.YtbegenmhfmpgpaaDoorRows
import Derived.Test.YtbegenmhfmpgpaaDoorLexM
import Derived.WalkKit
import Derived.WalkSpells
namespace Go.Proofs.YtbegenmhfmpgpaaDoor
open Go.RowKit M

theorem ret_bool {a b : Bool} (h : a = b) : Ending.returned (.bool a) = .returned (.bool b) := by rw [h]
theorem ret_string {a b : ByteArray} (h : a = b) : Ending.returned (.string a) = .returned (.string b) := by rw [h]

set_option maxHeartbeats 400000 in
theorem isLetter_any (c : UInt8) (w : World) :
    Calls Tryd.prog 73 #[.int .u8 c.toNat] w fun e w' => e = .returned (.bool (letterB c)) ∧ w = w' := by
  go_enter Tryd.func73, Tryd.ntmps73
  go_wp2
  all_goals
    go_ret
    exact ⟨ret_bool (by unfold letterB; first | (rw [Bool.eq_iff_iff]; simp; omega) | (simp; omega)), rfl⟩

set_option maxHeartbeats 400000 in
theorem isDigit_any (c : UInt8) (w : World) :
    Calls Tryd.prog 74 #[.int .u8 c.toNat] w fun e w' => e = .returned (.bool (digitB c)) ∧ w = w' := by
  go_enter Tryd.func74, Tryd.ntmps74
  go_wp2
  all_goals
    go_ret
    exact ⟨ret_bool (by unfold digitB; first | (rw [Bool.eq_iff_iff]; simp; omega) | (simp; omega)), rfl⟩

set_option maxHeartbeats 400000 in
theorem cont_any (c : UInt8) (w : World) :
    Calls Tryd.prog 75 #[.int .u8 c.toNat] w fun e w' => e = .returned (.bool (contB c)) ∧ w = w' := by
  go_enter Tryd.func75, Tryd.ntmps75
  go_wp2_with (first | (go_at_call 73; refine (isLetter_any _ _).mono ?_; rintro e w' ⟨rfl, rfl⟩) | (go_at_call 74; refine (isDigit_any _ _).mono ?_; rintro e w' ⟨rfl, rfl⟩))
  all_goals
    go_ret
    exact ⟨ret_bool (by unfold contB; first | (simp [*]; done) | (rw [Bool.eq_iff_iff]; simp [*]; omega) | (simp [*]; omega)), rfl⟩

/-- the bytes of a string from k on -/
def rest (s : ByteArray) (k : Nat) : Bs := s.data.toList.drop k
theorem rest_cons (s : ByteArray) (k : Nat) (h : k < s.size) : rest s k = s[k] :: rest s (k + 1) := by
  unfold rest
  exact List.drop_eq_getElem_cons (by simpa using h)
theorem rest_end (s : ByteArray) (k : Nat) (h : s.size ≤ k) : rest s k = [] := List.drop_eq_nil_of_le (by simpa using h)
theorem rest_zero (s : ByteArray) : rest s 0 = s.data.toList := rfl
theorem rest_length (s : ByteArray) (k : Nat) : (rest s k).length = s.size - k := by unfold rest; rw [List.length_drop]; simp
theorem size_zero (s : ByteArray) (h : s.size = 0) : s = ⟨#[]⟩ := by
  cases s with | mk d =>
    have : d = #[] := Array.eq_empty_of_size_eq_zero h
    rw [this]
theorem notEmpty (s : ByteArray) (h : 0 < s.size) : s.toList.isEmpty = false ∧ ¬ s.toList = [] := by
  have e : s.toList = s.data.toList := (ByteArray.toList_eq s)
  rw [e]
  have : 0 < s.data.toList.length := by simpa using h
  cases hh : s.data.toList with
  | nil => rw [hh] at this; simp at this
  | cons => simp

set_option maxHeartbeats 400000 in
theorem word_none (s : ByteArray) (h : wordN s.data.toList = 0) (w : World) :
    Calls Tryd.prog 51 #[.string s] w fun e w' => e = .returned (.string ⟨#[]⟩) ∧ w = w' := by
  by_cases h0 : s.size = 0
  · obtain rfl := size_zero s h0
    clear h h0
    go_enter Tryd.func51, Tryd.ntmps51
    go_wp2
    go_ret
    exact ⟨rfl, rfl⟩
  · have hp : 0 < s.size := by omega
    rw [← rest_zero, rest_cons s 0 hp] at h
    have h1 : (letterB s[0] || digitB s[0]) = false := by
      cases hh : (letterB s[0] || digitB s[0])
      · rfl
      · simp only [wordN, hh] at h; simp at h
    simp only [Bool.or_eq_false_iff] at h1
    obtain ⟨hl, hd⟩ := h1
    obtain ⟨e1, e2⟩ := notEmpty s hp
    clear h h0
    go_enter Tryd.func51, Tryd.ntmps51
    go_wp2_with (first | (go_at_call 73; refine (isLetter_any _ _).mono ?_; rintro e w' ⟨rfl, rfl⟩) | (go_at_call 74; refine (isDigit_any _ _).mono ?_; rintro e w' ⟨rfl, rfl⟩))
    go_ret
    exact ⟨rfl, rfl⟩

set_option maxHeartbeats 600000 in
theorem word_some (s : ByteArray) (hm : s.size ≤ maxLen) (hp : 0 < s.size) (h : (letterB s[0] || digitB s[0]) = true) (w : World) :
    Calls Tryd.prog 51 #[.string s] w fun e w' => e = .returned (.string (s.extract 0 (1 + wlen (rest s 1)))) ∧ w = w' := by
  unfold maxLen at hm
  obtain ⟨e1, e2⟩ := notEmpty s hp
  have key : ∀ b : Bool, letterB s[0] = b → Calls Tryd.prog 51 #[.string s] w fun e w' => e = .returned (.string (s.extract 0 (1 + wlen (rest s 1)))) ∧ w = w' := by
    intro b hb
    have hd : letterB s[0] = false → digitB s[0] = true := by
      intro hb; rw [hb] at h; simpa using h
    cases b
    all_goals
      (try have hd' := hd hb)
      clear hd h
      go_enter Tryd.func51, Tryd.ntmps51
      go_wp2_with (first | (go_at_call 73; refine (isLetter_any _ _).mono ?_; rintro e w' ⟨rfl, rfl⟩) | (go_at_call 74; refine (isDigit_any _ _).mono ?_; rintro e w' ⟨rfl, rfl⟩))
      go_loop [3] (fun t => ∃ k : Nat, 1 ≤ k ∧ k ≤ s.size ∧ t = .int .i64 k ∧ Hid (1 + wlen (rest s 1) = k + wlen (rest s k))) (fun t => s.size - (intOf t).toNat)
      case atStart => exact ⟨1, by omega, by omega, rfl, rfl⟩
      case round =>
        obtain ⟨k, hk1, hk, rfl, hN⟩ := hrel
        by_cases hlt : k < s.size
        · have hr := rest_cons s k hlt
          cases hc : contB s[k]
          · have hz : Hid (1 + wlen (rest s 1) = k) := by
              unfold Hid; rw [hN.out, hr, wlen_cons, hc]; rfl
            clear hr hN
            go_wp2_with (first | (go_at_call 75; refine (cont_any _ _).mono ?_; rintro e w' ⟨rfl, rfl⟩))
            go_ret
            exact ⟨ret_string (by rw [hz.out]), rfl⟩
          · have hz : Hid (1 + wlen (rest s 1) = (k + 1) + wlen (rest s (k + 1))) := by
              unfold Hid; rw [hN.out, hr, wlen_cons, hc]; simp; omega
            clear hr hN
            go_wp2_with (first | (go_at_call 75; refine (cont_any _ _).mono ?_; rintro e w' ⟨rfl, rfl⟩))
            go_round
            case rel => exact ⟨k + 1, by omega, by omega, by go_num, hz⟩
            case measure => simp [intOf]; omega
        · have hz : Hid (1 + wlen (rest s 1) = k) := by
            unfold Hid; rw [hN.out, rest_end s k (by omega)]; rfl
          clear hN
          go_wp2
          go_ret
          exact ⟨ret_string (by rw [hz.out]), rfl⟩
  exact key _ rfl

end Go.Proofs.YtbegenmhfmpgpaaDoor
