/- The plain model of the lexer: functions on lists of bytes, no program in it. No conditions. What the lexer's small functions return: letters, digits, words, prefixes. No conditions but that a string has a length. What strings.HasPrefix, the lexer's firstPrefix, isKeyword return. A table of candidates is one block of strings. -/
import Derived.Test.YtkjjagmpnnnimaaGreatDoorRows
import Derived.WalkKit
import Derived.WalkSpells
import Derived.Lib.Hide
namespace Go.Proofs.YtkjjagmpnnnimaaGreatDoor.M

abbrev Bs := List UInt8

def letterB (c : UInt8) : Bool := (97 ≤ c.toNat && c.toNat ≤ 122) || (65 ≤ c.toNat && c.toNat ≤ 90)
def digitB (c : UInt8) : Bool := 48 ≤ c.toNat && c.toNat ≤ 57
def contB (c : UInt8) : Bool := letterB c || digitB c || c.toNat == 95 || c.toNat == 39

/-- how many bytes at the head continue a word -/
def wlen (l : Bs) : Nat := (l.takeWhile contB).length
/-- the size of the word that begins a text, 0 if there is none -/
def wordN (l : Bs) : Nat := match l with
  | [] => 0
  | c :: r => if letterB c || digitB c then 1 + wlen r else 0

def firstP (l : Bs) : List Bs → Bs
  | [] => []
  | p :: ps => if p.isPrefixOf l then p else firstP l ps

def parenP (l : Bs) : Bs := if [40, 124, 126].isPrefixOf l || [40, 124, 124].isPrefixOf l then [40] else firstP l [[40, 124], [40]]

/-- the symbol of a text that begins with c -/
def symOf (c : UInt8) (l : Bs) : Bs :=
    if c = 91 then firstP l [[91, 70, 68, 61], [91, 84, 61], [91, 70, 61], [91, 124], [91, 93], [91, 62], [91, 43], [91, 91], [91]]
    else if c = 124 then firstP l [[124, 126, 124], [124, 124, 124], [124, 124], [124, 93], [124, 62], [124, 125], [124, 41], [124]]
    else if c = 60 then firstP l [[60, 45, 62], [60, 45], [60, 61], [60]]
    else if c = 40 then parenP l
    else if c = 93 then firstP l [[93, 93], [93]]
    else if c = 43 then firstP l [[43, 93], [43]]
    else if c = 123 then firstP l [[123, 124], [123]]
    else if c = 62 then firstP l [[62, 61], [62]]
    else if c = 45 then firstP l [[45, 62], [45]]
    else if c = 47 then firstP l [[47, 92], [47]]
    else if c = 61 then firstP l [[61, 62], [61, 61], [61]]
    else if c = 33 then firstP l [[33, 61], [33]]
    else if c = 58 then firstP l [[58, 58], [58]]
    else if c = 46 then firstP l [[46, 46], [46]]
    else if c = 64 then firstP l [[64, 64], [64]]
    else if c = 125 ∨ c = 41 ∨ c = 42 ∨ c = 37 ∨ c = 92 ∨ c = 59 ∨ c = 44 ∨ c = 63 ∨ c = 36 ∨ c = 38 ∨ c = 94 ∨ c = 35 ∨ c = 95 then [c]
    else []

def symB (l : Bs) : Bs := match l with
  | [] => []
  | c :: _ => symOf c l

def keywords : List Bs := [[97, 110, 100], [111, 114], [110, 111, 116], [105, 102], [116, 104, 101, 110], [101, 108, 115, 101], [108, 101, 116], [119, 105, 116, 104, 105, 110], [116, 114, 117, 101], [102, 97, 108, 115, 101],
  [100, 97, 116, 97, 116, 121, 112, 101], [110, 97, 109, 101, 116, 121, 112, 101], [99, 104, 97, 110, 110, 101, 108], [109, 111, 100, 117, 108, 101], [101, 120, 112, 111, 114, 116, 115], [101, 110, 100, 109, 111, 100, 117, 108, 101], [105, 110, 115, 116, 97, 110, 99, 101],
  [84, 105, 109, 101, 100], [101, 110, 100, 116, 105, 109, 101, 100], [97, 115, 115, 101, 114, 116], [83, 84, 79, 80], [83, 75, 73, 80], [68, 73, 86], [99, 104, 97, 115, 101], [112, 114, 105, 111, 114, 105, 116, 105, 115, 101]]
/-- the symbols in the document's order -/
def symbolsL : List Bs := [[91, 70, 68, 61], [124, 126, 124], [124, 124, 124], [60, 45, 62], [91, 84, 61], [91, 70, 61], [124, 124], [124, 93], [124, 62], [124, 125], [124, 41], [91, 124], [91, 93], [91, 62], [91, 43], [91, 91], [93, 93], [43, 93], [123, 124], [40, 124], [60, 45], [60, 61], [62, 61], [45, 62], [47, 92], [61, 62], [61, 61], [33, 61], [58, 58], [46, 46], [64, 64], [124], [91], [93], [123], [125], [40], [41], [60], [62], [43], [45], [42], [47], [37], [92], [61], [33], [58], [59], [44], [46], [63], [36], [64], [38], [94], [35], [95]]
def kwB (l : Bs) : Bool := keywords.contains l

theorem wlen_nil : wlen [] = 0 := rfl
theorem wlen_le (l : Bs) : wlen l ≤ l.length := (List.takeWhile_sublist _).length_le
theorem wlen_cons (c : UInt8) (r : Bs) : wlen (c :: r) = if contB c then 1 + wlen r else 0 := by
  unfold wlen; rw [List.takeWhile_cons]; split <;> simp [Nat.add_comm]
theorem wordN_le (l : Bs) : wordN l ≤ l.length := by
  unfold wordN
  split
  · simp
  · have := wlen_le ‹_›
    split <;> simp <;> omega

end Go.Proofs.YtkjjagmpnnnimaaGreatDoor.M

namespace Go.Proofs.YtkjjagmpnnnimaaGreatDoor
open Go.RowKit M

theorem ret_bool {a b : Bool} (h : a = b) : Ending.returned (.bool a) = .returned (.bool b) := by rw [h]
theorem ret_string {a b : ByteArray} (h : a = b) : Ending.returned (.string a) = .returned (.string b) := by rw [h]

set_option maxHeartbeats 400000 in
theorem isLetter_any (c : UInt8) (w : World) :
    Calls Tryz.prog 72 #[.int .u8 c.toNat] w fun e w' => e = .returned (.bool (letterB c)) ∧ w = w' := by
  go_enter Tryz.func72, Tryz.ntmps72
  go_wp2
  all_goals
    go_ret
    exact ⟨ret_bool (by unfold letterB; first | (rw [Bool.eq_iff_iff]; simp; omega) | (simp; omega)), rfl⟩

set_option maxHeartbeats 400000 in
theorem isDigit_any (c : UInt8) (w : World) :
    Calls Tryz.prog 73 #[.int .u8 c.toNat] w fun e w' => e = .returned (.bool (digitB c)) ∧ w = w' := by
  go_enter Tryz.func73, Tryz.ntmps73
  go_wp2
  all_goals
    go_ret
    exact ⟨ret_bool (by unfold digitB; first | (rw [Bool.eq_iff_iff]; simp; omega) | (simp; omega)), rfl⟩

set_option maxHeartbeats 400000 in
theorem cont_any (c : UInt8) (w : World) :
    Calls Tryz.prog 74 #[.int .u8 c.toNat] w fun e w' => e = .returned (.bool (contB c)) ∧ w = w' := by
  go_enter Tryz.func74, Tryz.ntmps74
  go_wp2_with (first | (go_at_call 72; refine (isLetter_any _ _).mono ?_; rintro e w' ⟨rfl, rfl⟩) | (go_at_call 73; refine (isDigit_any _ _).mono ?_; rintro e w' ⟨rfl, rfl⟩))
  all_goals
    go_ret
    exact ⟨ret_bool (by unfold contB; first | (simp [*]; done) | (rw [Bool.eq_iff_iff]; simp [*]; omega) | (simp [*]; omega)), rfl⟩

/-- the bytes of a string from k on -/
def rest (s : ByteArray) (k : Nat) : Bs := s.data.toList.drop k
theorem rest_cons (s : ByteArray) (k : Nat) (h : k < s.size) : rest s k = s[k] :: rest s (k + 1) := by
  unfold rest
  exact List.drop_eq_getElem_cons (by simpa using h)
theorem rest_end (s : ByteArray) (k : Nat) (h : s.size ≤ k) : rest s k = [] := List.drop_eq_nil_of_le (by simpa using h)
theorem rest_zero (s : ByteArray) : rest s 0 = s.data.toList := rfl
theorem rest_length (s : ByteArray) (k : Nat) : (rest s k).length = s.size - k := by unfold rest; rw [List.length_drop]; simp
theorem size_zero (s : ByteArray) (h : s.size = 0) : s = ⟨#[]⟩ := by
  cases s with | mk d =>
    have : d = #[] := Array.eq_empty_of_size_eq_zero h
    rw [this]
theorem notEmpty (s : ByteArray) (h : 0 < s.size) : s.toList.isEmpty = false ∧ ¬ s.toList = [] := by
  have e : s.toList = s.data.toList := (ByteArray.toList_eq s)
  rw [e]
  have : 0 < s.data.toList.length := by simpa using h
  cases hh : s.data.toList with
  | nil => rw [hh] at this; simp at this
  | cons => simp

set_option maxHeartbeats 400000 in
theorem word_none (s : ByteArray) (h : wordN s.data.toList = 0) (w : World) :
    Calls Tryz.prog 69 #[.string s] w fun e w' => e = .returned (.string ⟨#[]⟩) ∧ w = w' := by
  by_cases h0 : s.size = 0
  · obtain rfl := size_zero s h0
    clear h h0
    go_enter Tryz.func69, Tryz.ntmps69
    go_wp2
    go_ret
    exact ⟨rfl, rfl⟩
  · have hp : 0 < s.size := by omega
    rw [← rest_zero, rest_cons s 0 hp] at h
    have h1 : (letterB s[0] || digitB s[0]) = false := by
      cases hh : (letterB s[0] || digitB s[0])
      · rfl
      · simp only [wordN, hh] at h; simp at h
    simp only [Bool.or_eq_false_iff] at h1
    obtain ⟨hl, hd⟩ := h1
    obtain ⟨e1, e2⟩ := notEmpty s hp
    clear h h0
    go_enter Tryz.func69, Tryz.ntmps69
    go_wp2_with (first | (go_at_call 72; refine (isLetter_any _ _).mono ?_; rintro e w' ⟨rfl, rfl⟩) | (go_at_call 73; refine (isDigit_any _ _).mono ?_; rintro e w' ⟨rfl, rfl⟩))
    go_ret
    exact ⟨rfl, rfl⟩

set_option maxHeartbeats 600000 in
theorem word_some (s : ByteArray) (hm : s.size ≤ maxLen) (hp : 0 < s.size) (h : (letterB s[0] || digitB s[0]) = true) (w : World) :
    Calls Tryz.prog 69 #[.string s] w fun e w' => e = .returned (.string (s.extract 0 (1 + wlen (rest s 1)))) ∧ w = w' := by
  unfold maxLen at hm
  obtain ⟨e1, e2⟩ := notEmpty s hp
  have key : ∀ b : Bool, letterB s[0] = b → Calls Tryz.prog 69 #[.string s] w fun e w' => e = .returned (.string (s.extract 0 (1 + wlen (rest s 1)))) ∧ w = w' := by
    intro b hb
    have hd : letterB s[0] = false → digitB s[0] = true := by
      intro hb; rw [hb] at h; simpa using h
    cases b
    all_goals
      (try have hd' := hd hb)
      clear hd h
      go_enter Tryz.func69, Tryz.ntmps69
      go_wp2_with (first | (go_at_call 72; refine (isLetter_any _ _).mono ?_; rintro e w' ⟨rfl, rfl⟩) | (go_at_call 73; refine (isDigit_any _ _).mono ?_; rintro e w' ⟨rfl, rfl⟩))
      go_loop [3] (fun t => ∃ k : Nat, 1 ≤ k ∧ k ≤ s.size ∧ t = .int .i64 k ∧ Hid (1 + wlen (rest s 1) = k + wlen (rest s k))) (fun t => s.size - (intOf t).toNat)
      case atStart => exact ⟨1, by omega, by omega, rfl, rfl⟩
      case round =>
        obtain ⟨k, hk1, hk, rfl, hN⟩ := hrel
        by_cases hlt : k < s.size
        · have hr := rest_cons s k hlt
          cases hc : contB s[k]
          · have hz : Hid (1 + wlen (rest s 1) = k) := by
              unfold Hid; rw [hN.out, hr, wlen_cons, hc]; rfl
            clear hr hN
            go_wp2_with (first | (go_at_call 74; refine (cont_any _ _).mono ?_; rintro e w' ⟨rfl, rfl⟩))
            go_ret
            exact ⟨ret_string (by rw [hz.out]), rfl⟩
          · have hz : Hid (1 + wlen (rest s 1) = (k + 1) + wlen (rest s (k + 1))) := by
              unfold Hid; rw [hN.out, hr, wlen_cons, hc]; simp; omega
            clear hr hN
            go_wp2_with (first | (go_at_call 74; refine (cont_any _ _).mono ?_; rintro e w' ⟨rfl, rfl⟩))
            go_round
            case rel => exact ⟨k + 1, by omega, by omega, by go_num, hz⟩
            case measure => simp [intOf]; omega
        · have hz : Hid (1 + wlen (rest s 1) = k) := by
            unfold Hid; rw [hN.out, rest_end s k (by omega)]; rfl
          clear hN
          go_wp2
          go_ret
          exact ⟨ret_string (by rw [hz.out]), rfl⟩
  exact key _ rfl

end Go.Proofs.YtkjjagmpnnnimaaGreatDoor

namespace Go.Proofs.YtkjjagmpnnnimaaGreatDoor
open Go.RowKit M

/-- the string of a list of bytes -/
abbrev S (l : Bs) : ByteArray := ⟨l.toArray⟩
theorem S_toList (l : Bs) : (S l).data.toList = l := by simp
theorem S_of (s : ByteArray) : S s.data.toList = s := by cases s; simp
theorem extract_S (s : ByteArray) (n : Nat) : s.extract 0 n = S (s.data.toList.take n) := by
  apply ByteArray.ext
  apply Array.ext'
  simp [ByteArray.data_extract]
theorem extract_take (s : ByteArray) (n : Nat) : (s.extract 0 n).data.toList = s.data.toList.take n := by
  simp [ByteArray.data_extract]
theorem extract_drop (s : ByteArray) (n : Nat) : (s.extract n s.size).data.toList = s.data.toList.drop n := by
  rw [ByteArray.data_extract, Array.toList_extract, List.extract_eq_take_drop]
  exact List.take_of_length_le (by simp)

theorem prefix_take (p s : Bs) : p.isPrefixOf s = (decide (p.length ≤ s.length) && (s.take p.length == p)) := by
  rw [Bool.eq_iff_iff, List.isPrefixOf_iff_prefix, List.prefix_iff_eq_take]
  simp
  constructor
  · intro h
    have := congrArg List.length h
    rw [List.length_take] at this
    exact ⟨by omega, h.symm⟩
  · intro h; exact h.2.symm

set_option maxHeartbeats 400000 in
theorem lite_prefix (s p : ByteArray) (w : World) :
    Calls Tryz.prog 83 #[.string s, .string p] w fun e w' => e = .returned (.bool (p.data.toList.isPrefixOf s.data.toList)) ∧ w = w' := by
  have hs : s.size = s.data.toList.length := by simp
  have hp : p.size = p.data.toList.length := by simp
  go_enter Tryz.func83, Tryz.ntmps83
  clear hs hp
  go_wp2
  · rename_i h
    go_ret
    refine ⟨?_, rfl⟩
    have hs : s.size = s.data.toList.length := by simp
    have hp : p.size = p.data.toList.length := by simp
    refine ret_bool ?_
    rw [prefix_take, ByteArray.toList_eq, ByteArray.toList_eq, extract_take, ← hp, ← hs]
    simp [h]
  · rename_i h
    go_ret
    refine ⟨?_, rfl⟩
    have hs : s.size = s.data.toList.length := by simp
    have hp : p.size = p.data.toList.length := by simp
    refine ret_bool ?_
    rw [prefix_take, ← hp, ← hs]
    simp [h]

set_option maxHeartbeats 400000 in
theorem hasPrefix_is (s p : ByteArray) (b : Bool) (h : p.data.toList.isPrefixOf s.data.toList = b) (w : World) :
    Calls Tryz.prog 80 #[.string s, .string p] w fun e w' => e = .returned (.bool b) ∧ w = w' := by
  subst h
  go_enter Tryz.func80, Tryz.ntmps80
  go_wp2_with (go_at_call 83; refine (lite_prefix _ _ _).mono ?_; rintro e w' ⟨rfl, rfl⟩)
  go_ret
  exact ⟨ret_bool (by simp), rfl⟩

theorem firstP_step (l : Bs) (ps : List Bs) (k : Nat) (h : k < ps.length) : firstP l (ps.drop k) = if (ps.getD k []).isPrefixOf l then ps.getD k [] else firstP l (ps.drop (k + 1)) := by
  have e : ps.getD k [] = ps[k] := by simp [h]
  rw [List.drop_eq_getElem_cons h, e]
  rfl
theorem firstP_end (l : Bs) (ps : List Bs) (k : Nat) (h : ps.length ≤ k) : firstP l (ps.drop k) = [] := by
  rw [List.drop_eq_nil_of_le h]; rfl

set_option maxHeartbeats 400000 in
theorem firstPrefix_any (ps : List Bs) (n : Nat) (hn : n = ps.length) (hm : n ≤ 1000) (s : ByteArray) (b : Nat) (w : World)
    (hb : w.heap[b]? = some (.cells (ps.map fun p => Value.string (S p)).toArray 9 (0, 0))) :
    Calls Tryz.prog 77 #[.string s, .slice (some ⟨b, 0, none⟩) n n] w fun e w' => e = .returned (.string (S (firstP s.data.toList ps))) ∧ w = w' := by
  have hcell : ∀ k, k < n → w.cell? ⟨b, k, none⟩ = some (.string (S (ps.getD k []))) := fun k hk => by
    rw [cell_of_row w b k _ _ _ hb]
    simp [show k < ps.length by omega]
  have HC := Lib.hid hcell
  have HN := Lib.hid hn
  clear hcell hb hn
  go_enter Tryz.func77, Tryz.ntmps77
  go_wp2
  go_loop [9] (fun i => ∃ k : Nat, k ≤ n ∧ i = .int .i64 k ∧ Hid (firstP s.data.toList ps = firstP s.data.toList (ps.drop k))) (fun i => n - (intOf i).toNat)
  case atStart => exact ⟨0, by omega, rfl, rfl⟩
  case round =>
    obtain ⟨k, hk, rfl, hF⟩ := hrel
    by_cases hlt : k < n
    · have hc := HC.out k hlt
      have hs := firstP_step s.data.toList ps k (by rw [← HN.out]; exact hlt)
      cases hp : (ps.getD k []).isPrefixOf s.data.toList
      · have hz : Hid (firstP s.data.toList ps = firstP s.data.toList (ps.drop (k + 1))) := by
          unfold Hid; rw [hF.out, hs, hp]; rfl
        have HP := Lib.hid hp
        clear hs hF hp
        go_wp2_with (go_at_call 80; refine (hasPrefix_is _ _ false (by rw [S_toList]; exact HP.out) _).mono ?_; rintro e w' ⟨rfl, rfl⟩)
        go_round
        case rel => exact ⟨k + 1, by omega, by go_num, hz⟩
        case measure => simp [intOf]; omega
      · have hz : Hid (firstP s.data.toList ps = ps.getD k []) := by
          unfold Hid; rw [hF.out, hs, hp]; rfl
        have HP := Lib.hid hp
        clear hs hF hp
        go_wp2_with (go_at_call 80; refine (hasPrefix_is _ _ true (by rw [S_toList]; exact HP.out) _).mono ?_; rintro e w' ⟨rfl, rfl⟩)
        go_ret
        exact ⟨ret_string (by rw [hz.out, List.getD_eq_getElem?_getD]), rfl⟩
    · have hz : Hid (firstP s.data.toList ps = []) := by
        unfold Hid; rw [hF.out, firstP_end _ _ _ (by rw [← HN.out]; omega)]
      clear hF
      go_wp2
      go_ret
      exact ⟨ret_string (by rw [hz.out]), rfl⟩

end Go.Proofs.YtkjjagmpnnnimaaGreatDoor
