/- What the lexer's lineSize, commentSize and gap return, for strings of at most 65536 bytes. -/
import Derived.Test.YtbegenmhfmpgpaaDoorLexW2
import Derived.Test.YtbegenmhfmpgpaaDoorLexG
import Derived.Test.YtbegenmhfmpgpaaDoorShelf
namespace Go.Proofs.YtbegenmhfmpgpaaDoor
open Go.RowKit M

theorem head_rest (s : ByteArray) (hp : 0 < s.size) : s.data.toList = s[0] :: rest s 1 := by rw [← rest_cons s 0 hp]; rfl
theorem rest_drop (s : ByteArray) (k n : Nat) : (rest s k).drop n = rest s (k + n) := by unfold rest; rw [List.drop_drop]
theorem ret_int {k : IntKind} {a b : Int} (h : a = b) : Ending.returned (.int k a) = .returned (.int k b) := by rw [h]

set_option maxHeartbeats 400000 in
theorem line_any (s : ByteArray) (w : World) :
    Calls Tryd.prog 83 #[.string s] w fun e w' => e = .returned (.int .i64 (lineN s.data.toList)) ∧ w = w' := by
  have hi := fun W => Tryd.strings_IndexByte s 10 W
  have e10 : (10 : Int).toNat.toUInt8 = 10 := rfl
  rw [e10] at hi
  have hz : (s.size : Int) = s.data.toList.length := by simp
  have hx := index_line s.data.toList
  generalize Lib.indexByte s.data.toList 10 = x at hi hx
  generalize lineN s.data.toList = m at hx ⊢
  have HI := Lib.hid hi
  have HZ := Lib.hid hz
  clear hi hz
  rcases hx with ⟨rfl, hm⟩ | ⟨h0, hm⟩
  · have HM := Lib.hid hm
    clear hm
    go_enter Tryd.func83, Tryd.ntmps83
    go_wp2_with (go_at_call 100; refine (HI.out _).mono ?_; rintro e w' ⟨rfl, rfl⟩)
    go_ret
    exact ⟨ret_int (by have a := HM.out; have b := HZ.out; omega), rfl⟩
  · have HM := Lib.hid hm
    clear hm
    go_enter Tryd.func83, Tryd.ntmps83
    go_wp2_with (go_at_call 100; refine (HI.out _).mono ?_; rintro e w' ⟨rfl, rfl⟩)
    go_ret
    exact ⟨ret_int HM.out, rfl⟩

theorem extract_rest (s : ByteArray) (k : Nat) : (s.extract k s.size).data.toList = rest s k := by rw [extract_drop]; rfl

theorem at_open (s : ByteArray) (k : Nat) (r : Bool) (h : Hid ([123, 45].isPrefixOf (rest s k) = r)) (w : World) :
    Calls Tryd.prog 82 #[.string (s.extract k s.size), .string ⟨#[123, 45]⟩] w fun e w' => e = .returned (.bool r) ∧ w = w' :=
  hasPrefix_is _ _ r (by rw [extract_rest]; exact h) w
theorem at_shut (s : ByteArray) (k : Nat) (r : Bool) (h : Hid ([45, 125].isPrefixOf (rest s k) = r)) (w : World) :
    Calls Tryd.prog 82 #[.string (s.extract k s.size), .string ⟨#[45, 125]⟩] w fun e w' => e = .returned (.bool r) ∧ w = w' :=
  hasPrefix_is _ _ r (by rw [extract_rest]; exact h) w

theorem comF_step (f : Nat) (d : Int) (l : Bs) (n : Nat) : comF (f + 1) d l n = if l = [] then none
    else if [123, 45].isPrefixOf l then (if d + 1 = 0 then some (n + 2) else comF f (d + 1) (l.drop 2) (n + 2))
    else if [45, 125].isPrefixOf l then (if d - 1 = 0 then some (n + 2) else comF f (d - 1) (l.drop 2) (n + 2))
    else (if d = 0 then some (n + 1) else comF f d (l.drop 1) (n + 1)) := rfl

theorem prefix2_le (s : ByteArray) (k : Nat) (a b : UInt8) (h : [a, b].isPrefixOf (rest s k) = true) : k + 2 ≤ s.size := by
  rw [List.isPrefixOf_iff_prefix] at h
  have := h.length_le
  rw [rest_length] at this
  simp at this
  omega

def optV (o : Option Nat) : Value := match o with
  | some n => .tuple #[.int .i64 n, .bool true]
  | none => .tuple #[.int .i64 (0 : Nat), .bool false]

set_option maxHeartbeats 2000000 in
theorem comment_any (s : ByteArray) (hm : s.size ≤ 65536) (w : World) :
    Calls Tryd.prog 84 #[.string s] w fun e w' => e = .returned (optV (comN s.data.toList)) ∧ w = w' := by
  have hlen : s.data.toList.length = s.size := by simp
  have hR : Hid (comN s.data.toList = comF (s.size + 1) 0 (rest s 0) 0) := by unfold Hid comN; rw [hlen]; rfl
  clear hlen
  generalize comN s.data.toList = R at *
  go_enter Tryd.func84, Tryd.ntmps84
  go_wp2
  go_loop [4, 5] (fun t4 t5 => ∃ (d : Int) (k f : Nat), -(k : Int) ≤ d ∧ d ≤ k ∧ k ≤ s.size ∧ s.size + 1 ≤ f + k ∧ t4 = .int .i64 d ∧ t5 = .int .i64 k ∧ Hid (R = comF f d (rest s k) k)) (fun _ t5 => s.size - (intOf t5).toNat)
  case atStart => exact ⟨0, 0, s.size + 1, by omega, by omega, by omega, by omega, rfl, rfl, hR⟩
  case round =>
    clear hR
    obtain ⟨d, k, f, hd1, hd2, hk, hf, rfl, rfl, hR⟩ := hrel
    obtain ⟨f, rfl⟩ : ∃ g, f = g + 1 := ⟨f - 1, by omega⟩
    have hs := comF_step f d (rest s k) k
    by_cases hlt : k < s.size
    · have hne : rest s k ≠ [] := by rw [rest_cons s k hlt]; simp
      rw [if_neg hne] at hs
      have e2 := rest_drop s k 2
      have e1 := rest_drop s k 1
      cases h1 : [123, 45].isPrefixOf (rest s k)
      · rw [h1, if_neg (by decide)] at hs
        have H1 := Lib.hid h1
        clear h1
        cases h2 : [45, 125].isPrefixOf (rest s k)
        · rw [h2, if_neg (by decide), e1] at hs
          have H2 := Lib.hid h2
          clear h2
          by_cases hd : d = 0
          · rw [if_pos hd] at hs
            have hz : Hid (R = some (k + 1)) := hR.out.trans hs
            have g0 : (d == 0) = true := beq_iff_eq.2 hd
            clear hs hR e1 e2 hd hne
            go_wp2_with fail
            refine (at_open s k false H1 _).mono ?_
            rintro e w' ⟨rfl, rfl⟩
            go_wp2_with (go_at_call 82; refine (at_shut s k false H2 _).mono ?_; rintro e w' ⟨rfl, rfl⟩)
            go_ret2
            rw [hz.out]
            exact ⟨rfl, rfl⟩
          · rw [if_neg hd] at hs
            have hz : Hid (R = comF f (d) (rest s (k + 1)) (k + 1)) := hR.out.trans hs
            have g0 : (d == 0) = false := beq_eq_false_iff_ne.2 hd
            clear hs hR e1 e2 hd hne
            go_wp2_with fail
            refine (at_open s k false H1 _).mono ?_
            rintro e w' ⟨rfl, rfl⟩
            go_wp2_with (go_at_call 82; refine (at_shut s k false H2 _).mono ?_; rintro e w' ⟨rfl, rfl⟩)
            go_round
            case rel => exact ⟨d, k + 1, f, by omega, by omega, by omega, by omega, rfl, by go_num, hz⟩
            case measure => simp [intOf]; omega
        · rw [h2, if_pos rfl, e2] at hs
          have h2le := prefix2_le s k _ _ h2
          have H2 := Lib.hid h2
          clear h2
          by_cases hd : d - 1 = 0
          · rw [if_pos hd] at hs
            have hz : Hid (R = some (k + 2)) := hR.out.trans hs
            obtain rfl : d = 1 := by omega
            clear hs hR e1 e2 hd hne
            go_wp2_with fail
            refine (at_open s k false H1 _).mono ?_
            rintro e w' ⟨rfl, rfl⟩
            go_wp2_with (go_at_call 82; refine (at_shut s k true H2 _).mono ?_; rintro e w' ⟨rfl, rfl⟩)
            go_ret2
            rw [hz.out]
            exact ⟨rfl, rfl⟩
          · rw [if_neg hd] at hs
            have hz : Hid (R = comF f (d - 1) (rest s (k + 2)) (k + 2)) := hR.out.trans hs
            have g0 : (d - 1 == 0) = false := beq_eq_false_iff_ne.2 hd
            clear hs hR e1 e2 hd hne
            go_wp2_with fail
            refine (at_open s k false H1 _).mono ?_
            rintro e w' ⟨rfl, rfl⟩
            go_wp2_with (go_at_call 82; refine (at_shut s k true H2 _).mono ?_; rintro e w' ⟨rfl, rfl⟩)
            go_round
            case rel => exact ⟨d - 1, k + 2, f, by omega, by omega, by omega, by omega, rfl, by go_num, hz⟩
            case measure => simp [intOf]; omega
      · rw [h1, if_pos rfl, e2] at hs
        have h1le := prefix2_le s k _ _ h1
        have H1 := Lib.hid h1
        clear h1
        by_cases hd : d + 1 = 0
        · rw [if_pos hd] at hs
          have hz : Hid (R = some (k + 2)) := hR.out.trans hs
          have g0 : (d + 1 == 0) = true := beq_iff_eq.2 hd
          clear hs hR e1 e2 hd hne
          go_wp2_with (go_at_call 82; refine (at_open s k true H1 _).mono ?_; rintro e w' ⟨rfl, rfl⟩)
          go_ret2
          rw [hz.out]
          exact ⟨rfl, rfl⟩
        · rw [if_neg hd] at hs
          have hz : Hid (R = comF f (d + 1) (rest s (k + 2)) (k + 2)) := hR.out.trans hs
          have g0 : (d + 1 == 0) = false := beq_eq_false_iff_ne.2 hd
          clear hs hR e1 e2 hd hne
          go_wp2_with (go_at_call 82; refine (at_open s k true H1 _).mono ?_; rintro e w' ⟨rfl, rfl⟩)
          go_round
          case rel => exact ⟨d + 1, k + 2, f, by omega, by omega, by omega, by omega, rfl, by go_num, hz⟩
          case measure => simp [intOf]; omega
    · have he : rest s k = [] := rest_end s k (by omega)
      rw [if_pos he] at hs
      have hz : Hid (R = none) := hR.out.trans hs
      clear hs hR he
      go_wp2
      go_ret2
      rw [hz.out]
      exact ⟨rfl, rfl⟩

def gapV (g : Nat × Bool) : Value := .tuple #[.int .i64 g.1, .bool g.2]
theorem cast_to (c : UInt8) (n : Nat) (h : c.toNat = n) : (c.toNat : Int) = n := by rw [h]

set_option maxHeartbeats 1000000 in
theorem gap_white (s : ByteArray) (hp : 0 < s.size) (h : s[0].toNat = 32 ∨ s[0].toNat = 9 ∨ s[0].toNat = 13 ∨ s[0].toNat = 10) (w : World) :
    Calls Tryd.prog 58 #[.string s] w fun e w' => e = .returned (.tuple #[.int .i64 (1 : Nat), .bool true]) ∧ w = w' := by
  obtain ⟨e1, e2⟩ := notEmpty s hp
  rcases h with h | h | h | h
  all_goals
    have hv := cast_to _ _ h
    clear h
    go_enter Tryd.func58, Tryd.ntmps58
    go_wp2
    go_ret2
    exact ⟨rfl, rfl⟩

set_option maxHeartbeats 1000000 in
theorem gap_line (s : ByteArray) (hp : 0 < s.size) (h : s[0].toNat = 45) (r : Bool) (hr : [45, 45].isPrefixOf s.data.toList = r) (w : World) :
    Calls Tryd.prog 58 #[.string s] w fun e w' => e = .returned (if r then .tuple #[.int .i64 (lineN s.data.toList), .bool true] else .tuple #[.int .i64 (0 : Nat), .bool true]) ∧ w = w' := by
  obtain ⟨e1, e2⟩ := notEmpty s hp
  have hv := cast_to _ _ h
  have HP := fun W => hasPrefix_is s ⟨#[45, 45]⟩ r hr W
  have HP := Lib.hid HP
  clear h hr
  cases r
  · go_enter Tryd.func58, Tryd.ntmps58
    go_wp2_with fail
    refine (HP.out _).mono ?_
    rintro e w' ⟨rfl, rfl⟩
    go_wp2
    go_ret2
    exact ⟨rfl, rfl⟩
  · go_enter Tryd.func58, Tryd.ntmps58
    go_wp2_with fail
    refine (HP.out _).mono ?_
    rintro e w' ⟨rfl, rfl⟩
    go_wp2_with fail
    refine (line_any s _).mono ?_
    rintro e w' ⟨rfl, rfl⟩
    go_wp2
    go_ret2
    exact ⟨rfl, rfl⟩

set_option maxHeartbeats 1000000 in
theorem gap_comment (s : ByteArray) (hm : s.size ≤ 65536) (hp : 0 < s.size) (h : s[0].toNat = 123) (r : Bool) (hr : [123, 45].isPrefixOf s.data.toList = r) (w : World) :
    Calls Tryd.prog 58 #[.string s] w fun e w' => e = .returned (if r then gapV (comR s.data.toList) else .tuple #[.int .i64 (0 : Nat), .bool true]) ∧ w = w' := by
  obtain ⟨e1, e2⟩ := notEmpty s hp
  have hv := cast_to _ _ h
  have HP := fun W => hasPrefix_is s ⟨#[123, 45]⟩ r hr W
  have HP := Lib.hid HP
  have HC := fun W => comment_any s hm W
  unfold comR
  clear h hr
  cases r
  · clear HC
    go_enter Tryd.func58, Tryd.ntmps58
    go_wp2_with fail
    refine (HP.out _).mono ?_
    rintro e w' ⟨rfl, rfl⟩
    go_wp2
    go_ret2
    exact ⟨rfl, rfl⟩
  · cases hR : comN s.data.toList
    · rw [hR] at HC
      unfold optV at HC
      have HC := Lib.hid HC
      clear hR
      go_enter Tryd.func58, Tryd.ntmps58
      go_wp2_with fail
      refine (HP.out _).mono ?_
      rintro e w' ⟨rfl, rfl⟩
      go_wp2_with fail
      refine (HC.out _).mono ?_
      rintro e w' ⟨rfl, rfl⟩
      go_wp2
      go_ret2
      exact ⟨rfl, rfl⟩
    · rw [hR] at HC
      unfold optV at HC
      have HC := Lib.hid HC
      clear hR
      go_enter Tryd.func58, Tryd.ntmps58
      go_wp2_with fail
      refine (HP.out _).mono ?_
      rintro e w' ⟨rfl, rfl⟩
      go_wp2_with fail
      refine (HC.out _).mono ?_
      rintro e w' ⟨rfl, rfl⟩
      go_wp2
      go_ret2
      exact ⟨rfl, rfl⟩

set_option maxHeartbeats 1000000 in
theorem gap_other (s : ByteArray) (hp : 0 < s.size) (h : ¬ (s[0].toNat = 32 ∨ s[0].toNat = 9 ∨ s[0].toNat = 13 ∨ s[0].toNat = 10)) (h1 : ¬ s[0].toNat = 45) (h2 : ¬ s[0].toNat = 123) (w : World) :
    Calls Tryd.prog 58 #[.string s] w fun e w' => e = .returned (.tuple #[.int .i64 (0 : Nat), .bool true]) ∧ w = w' := by
  obtain ⟨e1, e2⟩ := notEmpty s hp
  have g1 : ((s[0].toNat : Int) == 32) = false := beq_eq_false_iff_ne.2 (by omega)
  have g2 : ((s[0].toNat : Int) == 9) = false := beq_eq_false_iff_ne.2 (by omega)
  have g3 : ((s[0].toNat : Int) == 13) = false := beq_eq_false_iff_ne.2 (by omega)
  have g4 : ((s[0].toNat : Int) == 10) = false := beq_eq_false_iff_ne.2 (by omega)
  have g5 : ((s[0].toNat : Int) == 45) = false := beq_eq_false_iff_ne.2 (by omega)
  have g6 : ((s[0].toNat : Int) == 123) = false := beq_eq_false_iff_ne.2 (by omega)
  clear h h1 h2
  go_enter Tryd.func58, Tryd.ntmps58
  go_wp2
  go_ret2
  exact ⟨rfl, rfl⟩

set_option maxHeartbeats 1000000 in
theorem gap_empty (w : World) : Calls Tryd.prog 58 #[.string ⟨#[]⟩] w fun e w' => e = .returned (.tuple #[.int .i64 (0 : Nat), .bool true]) ∧ w = w' := by
  go_enter Tryd.func58, Tryd.ntmps58
  go_wp2
  go_ret2
  exact ⟨rfl, rfl⟩

theorem gap_any (s : ByteArray) (hm : s.size ≤ 65536) (w : World) :
    Calls Tryd.prog 58 #[.string s] w fun e w' => e = .returned (gapV (gapR s.data.toList)) ∧ w = w' := by
  by_cases h0 : s.size = 0
  · obtain rfl := size_zero s h0
    exact gap_empty w
  have hp : 0 < s.size := by omega
  have he : gapR s.data.toList = if s[0].toNat = 32 ∨ s[0].toNat = 9 ∨ s[0].toNat = 13 ∨ s[0].toNat = 10 then (1, true)
    else if s[0].toNat = 45 ∧ [45, 45].isPrefixOf s.data.toList then (lineN s.data.toList, true)
    else if s[0].toNat = 123 ∧ [123, 45].isPrefixOf s.data.toList then comR s.data.toList
    else (0, true) := by
    rw [head_rest s hp]; rfl
  rw [he]
  by_cases h1 : s[0].toNat = 32 ∨ s[0].toNat = 9 ∨ s[0].toNat = 13 ∨ s[0].toNat = 10
  · rw [if_pos h1]; exact gap_white s hp h1 w
  rw [if_neg h1]
  by_cases h2 : s[0].toNat = 45
  · have := gap_line s hp h2 _ rfl w
    by_cases h3 : [45, 45].isPrefixOf s.data.toList = true
    · rw [if_pos ⟨h2, h3⟩]; rw [if_pos h3] at this; exact this
    · rw [if_neg (fun h => h3 h.2), if_neg (fun h => by have := h.1; omega)]; rw [if_neg h3] at this; exact this
  rw [if_neg (fun h => h2 h.1)]
  by_cases h3 : s[0].toNat = 123
  · have := gap_comment s hm hp h3 _ rfl w
    by_cases h4 : [123, 45].isPrefixOf s.data.toList = true
    · rw [if_pos ⟨h3, h4⟩]; rw [if_pos h4] at this; exact this
    · rw [if_neg (fun h => h4 h.2)]; rw [if_neg h4] at this; exact this
  rw [if_neg (fun h => h3 h.1)]
  exact gap_other s hp h1 h2 h3 w

end Go.Proofs.YtbegenmhfmpgpaaDoor
