/- What the lexer's isKeyword, integerToken, wordToken return. What the lexer's integerToken, wordToken and item return, for strings of at most 65536 bytes. What the lexer's item returns at every string of at most 65536 bytes. -/
import Derived.Test.YtkjjagmpnnnimaaGreatDoorQ2
namespace Go.Proofs.YtkjjagmpnnnimaaGreatDoor
open Go.RowKit M

theorem toList_ne (s : ByteArray) (k : Bs) (h : s.data.toList ≠ k) : (s.toList == k) = false := by
  rw [ByteArray.toList_eq]; exact beq_eq_false_iff_ne.2 h
theorem toList_is (s : ByteArray) (k : Bs) (h : s.data.toList = k) : (s.toList == k) = true := by
  rw [ByteArray.toList_eq]; exact beq_iff_eq.2 h

set_option maxHeartbeats 1000000 in
theorem keyword_no (s : ByteArray) (w : World) (h : kwB s.data.toList = false) :
    Calls Tryz.prog 76 #[.string s] w fun e w' => e = .returned (.bool false) ∧ w = w' := by
  have hne : ∀ k, k ∈ keywords → (s.toList == k) = false := fun k hk => toList_ne s k (fun e => by
    unfold kwB at h; rw [e] at h; simp [hk] at h)
  have g0 := hne [97, 110, 100] (by decide)
  have g1 := hne [111, 114] (by decide)
  have g2 := hne [110, 111, 116] (by decide)
  have g3 := hne [105, 102] (by decide)
  have g4 := hne [116, 104, 101, 110] (by decide)
  have g5 := hne [101, 108, 115, 101] (by decide)
  have g6 := hne [108, 101, 116] (by decide)
  have g7 := hne [119, 105, 116, 104, 105, 110] (by decide)
  have g8 := hne [116, 114, 117, 101] (by decide)
  have g9 := hne [102, 97, 108, 115, 101] (by decide)
  have g10 := hne [100, 97, 116, 97, 116, 121, 112, 101] (by decide)
  have g11 := hne [110, 97, 109, 101, 116, 121, 112, 101] (by decide)
  have g12 := hne [99, 104, 97, 110, 110, 101, 108] (by decide)
  have g13 := hne [109, 111, 100, 117, 108, 101] (by decide)
  have g14 := hne [101, 120, 112, 111, 114, 116, 115] (by decide)
  have g15 := hne [101, 110, 100, 109, 111, 100, 117, 108, 101] (by decide)
  have g16 := hne [105, 110, 115, 116, 97, 110, 99, 101] (by decide)
  have g17 := hne [84, 105, 109, 101, 100] (by decide)
  have g18 := hne [101, 110, 100, 116, 105, 109, 101, 100] (by decide)
  have g19 := hne [97, 115, 115, 101, 114, 116] (by decide)
  have g20 := hne [83, 84, 79, 80] (by decide)
  have g21 := hne [83, 75, 73, 80] (by decide)
  have g22 := hne [68, 73, 86] (by decide)
  have g23 := hne [99, 104, 97, 115, 101] (by decide)
  have g24 := hne [112, 114, 105, 111, 114, 105, 116, 105, 115, 101] (by decide)
  clear hne h
  go_enter Tryz.func76, Tryz.ntmps76
  go_wp2
  go_ret
  exact ⟨rfl, rfl⟩

set_option maxHeartbeats 2000000 in
theorem keyword_yes (s : ByteArray) (w : World) (h : kwB s.data.toList = true) :
    Calls Tryz.prog 76 #[.string s] w fun e w' => e = .returned (.bool true) ∧ w = w' := by
  have hm : s.data.toList ∈ keywords := by unfold kwB at h; simpa using h
  have hs := S_of s
  generalize s.data.toList = l at hm hs
  subst hs
  clear h
  simp only [keywords, List.mem_cons, List.not_mem_nil, or_false] at hm
  rcases hm with rfl | rfl | rfl | rfl | rfl | rfl | rfl | rfl | rfl | rfl | rfl | rfl | rfl | rfl | rfl | rfl | rfl | rfl | rfl | rfl | rfl | rfl | rfl | rfl | rfl
  all_goals
    go_enter Tryz.func76, Tryz.ntmps76
    go_wp2
    go_ret
    exact ⟨rfl, rfl⟩

end Go.Proofs.YtkjjagmpnnnimaaGreatDoor

namespace Go.Proofs.YtkjjagmpnnnimaaGreatDoor
open Go.RowKit M

/-- the variable strconv.ErrRange holds an interface value -/
def RangeVar (w : World) : Prop := ∃ tp p, w.var? Tryz.prog "strconv.ErrRange" = some #[.iface tp p]
theorem global_range : Tryz.prog.globalNamed "strconv.ErrRange" = some 1 := by kernel_rfl
theorem RangeVar.lt {w : World} (h : RangeVar w) : 1 < w.heap.size := by
  obtain ⟨tp, p, h⟩ := h
  rcases Nat.lt_or_ge 1 w.heap.size with hlt | hge
  · exact hlt
  · unfold World.var? at h
    simp [global_range, Array.getElem?_eq_none hge] at h
theorem RangeVar.below {w w' : World} (h : RangeVar w) (hb : Below w.heap.size w w') : RangeVar w' := by
  have hl := h.lt
  obtain ⟨tp, p, h⟩ := h
  refine ⟨tp, p, ?_⟩
  unfold World.var? at h ⊢
  simp only [global_range, Option.bind_some] at h ⊢
  rw [hb.block _ hl]
  exact h
theorem RangeVar.alloc {w : World} (h : RangeVar w) (o : Obj) : RangeVar (w.alloc o) := h.below ((Below.refl _ _).alloc (Nat.le_refl _) _)

/-- a token's value -/
abbrev tokV (k n : Int) (s : Bs) (l c : Int) : Value := .agg #[.int .i64 k, .int .i64 n, .string (S s), .int .i64 l, .int .i64 c]
def itemV (t : TR) : Value := .tuple #[tokV t.kind t.num t.str 0 0, .int .i64 t.err]

theorem bcell {W w1 : World} (hb : Below W.heap.size W w1) : (∀ b o, b < W.heap.size → w1.cell? ⟨b, o, none⟩ = W.cell? ⟨b, o, none⟩) ∧ (∀ b o, b < W.heap.size → w1.frozen? ⟨b, o, none⟩ = W.frozen? ⟨b, o, none⟩) :=
  ⟨fun b o h => hb.cell (p := ⟨b, o, none⟩) h, fun b o h => hb.frozen (p := ⟨b, o, none⟩) h⟩

set_option maxHeartbeats 600000 in
theorem integer_zero (s : ByteArray) (hp : 0 < s.size) (h0 : s[0].toNat = 48) (h1 : s.data.toList ≠ [48]) (w : World) :
    Calls Tryz.prog 75 #[.string s] w fun e w' => e = .returned (.tuple #[tokV 0 0 [] 0 0, .int .i64 2]) ∧ Below w.heap.size w w' := by
  have hv := cast_of _ _ h0
  have hne := toList_ne s _ h1
  clear h0 h1
  go_enter Tryz.func75, Tryz.ntmps75
  go_wp2
  exact bodyPost_ret (v := .tuple #[tokV 0 0 [] 0 0, .int .i64 2]) (by simp [results, Tryz.results75, go_sem]) rfl ⟨rfl, (Below.refl _ _).alloc (Nat.le_refl _) _⟩

theorem parse_ok (s : ByteArray) (hm : s.size ≤ 140737488355328) (hp : 0 < s.size) (hd : allDigits s.data.toList = true) (hl : intVal s.data.toList < 9223372036854775808) (w : World) :
    Calls Tryz.prog 79 #[.string s, .int .i64 10, .int .i64 64] w fun e w' => e = .returned (.tuple #[.int .i64 (intVal s.data.toList), .nilIface]) ∧ Below w.heap.size w w' := by
  have hne : s.data.toList ≠ [] := by rw [head_of s hp]; simp
  refine (Tryz.strconv_ParseInt_10_at64_ok s (by omega) (intVal s.data.toList) (by rw [parse_digits _ hne hd, if_pos hl]) w).mono ?_
  rintro e w' ⟨he, hw⟩
  refine ⟨he, ?_⟩
  rcases hw with rfl | ⟨t, rfl⟩
  · exact Below.refl _ _
  · exact Lib.bytesWorld_below _ _ _
def AnErr (w : World) (e : Ending) (w' : World) : Prop := ∃ v N, e = .returned (.tuple #[.int .i64 v, .iface 98 (.pointer (some ⟨N, 0, none⟩))]) ∧ Below w.heap.size w w'
theorem parse_range (s : ByteArray) (hm : s.size ≤ 140737488355328) (hp : 0 < s.size) (hd : allDigits s.data.toList = true) (hl : ¬ intVal s.data.toList < 9223372036854775808) (w : World) (hr : RangeVar w) :
    Calls Tryz.prog 79 #[.string s, .int .i64 10, .int .i64 64] w (AnErr w) := by
  have hne : s.data.toList ≠ [] := by rw [head_of s hp]; simp
  obtain ⟨tp, p, hv⟩ := hr
  refine (Tryz.strconv_ParseInt_10_at64_range_var s (by omega) (by rw [parse_digits _ hne hd, if_neg hl]) tp p w hv).mono ?_
  rintro e w' ⟨N, he, _, _, hb⟩
  exact ⟨_, N, he, hb⟩

theorem digits_step (s : ByteArray) (k : Nat) (h : k < s.size) : allDigits (rest s k) = (digitB s[k] && allDigits (rest s (k + 1))) := by
  rw [rest_cons s k h]; rfl

set_option maxHeartbeats 1000000 in
theorem integer_bad (s : ByteArray) (hm : s.size ≤ 140737488355328) (hp : 0 < s.size) (h0 : s[0].toNat ≠ 48 ∨ s.data.toList = [48]) (hd : allDigits s.data.toList = false) (w : World) :
    Calls Tryz.prog 75 #[.string s] w fun e w' => e = .returned (.tuple #[tokV 0 0 [] 0 0, .int .i64 2]) ∧ Below w.heap.size w w' := by
  have h0 : s[0].toNat ≠ 48 := by
    rcases h0 with h0 | h0
    · exact h0
    · rw [h0] at hd; exact absurd hd (by decide)
  have hv : ((s[0].toNat : Int) == 48) = false := beq_eq_false_iff_ne.2 (by omega)
  have hD : Hid (allDigits (rest s 0) = false) := hd
  clear h0 hd
  go_enter Tryz.func75, Tryz.ntmps75
  go_wp2
  go_loop [17] (fun t => ∃ k : Nat, k ≤ s.size ∧ t = .int .i64 k ∧ Hid (allDigits (rest s k) = false)) (fun t => s.size - (intOf t).toNat)
  case atStart => exact ⟨0, by omega, rfl, hD⟩
  case round =>
    obtain ⟨k, hk, rfl, hK⟩ := hrel
    have hlt : k < s.size := by
      rcases Nat.lt_or_ge k s.size with h | h
      · exact h
      · have := hK.out; rw [rest_end s k h] at this; exact absurd this (by decide)
    have hs := digits_step s k hlt
    cases hc : digitB s[k]
    · clear hs hK
      go_wp2_with (go_at_call 73; refine (isDigit_any _ _).mono ?_; rintro e w' ⟨rfl, rfl⟩)
      exact bodyPost_ret (v := .tuple #[tokV 0 0 [] 0 0, .int .i64 2]) (by simp [results, Tryz.results75, go_sem]) rfl ⟨rfl, (Below.refl _ _).alloc (Nat.le_refl _) _⟩
    · have hz : Hid (allDigits (rest s (k + 1)) = false) := by
        have := hK.out; rw [hs, hc] at this; unfold Hid; simpa using this
      clear hs hK
      go_wp2_with (go_at_call 73; refine (isDigit_any _ _).mono ?_; rintro e w' ⟨rfl, rfl⟩)
      go_round
      case rel => exact ⟨k + 1, by omega, by go_num, hz⟩
      case measure => simp [intOf]; omega

set_option maxHeartbeats 1000000 in
theorem integer_small (s : ByteArray) (hm : s.size ≤ 140737488355328) (hp : 0 < s.size) (h0 : s[0].toNat ≠ 48 ∨ s.data.toList = [48]) (hd : allDigits s.data.toList = true) (hi : intVal s.data.toList < 9223372036854775808) (w : World) :
    Calls Tryz.prog 75 #[.string s] w fun e w' => e = .returned (.tuple #[tokV 2 (intVal s.data.toList) [] 0 0, .int .i64 0]) ∧ Below w.heap.size w w' := by
  have hv : ((s[0].toNat : Int) == 48) = false ∨ ((s.toList == [48]) = true ∧ (s[0].toNat : Int) = 48) := by
    rcases h0 with h0 | h0
    · exact .inl (beq_eq_false_iff_ne.2 (by omega))
    · refine .inr ⟨toList_is _ _ h0, ?_⟩
      have := head_of s hp
      rw [h0] at this
      have h1 : (48 : UInt8) = s[0] := by injection this
      rw [← h1]; rfl
  have hD : Hid (allDigits (rest s 0) = true) := hd
  have HD := Lib.hid hd
  have HI := Lib.hid hi
  clear h0 hd hi
  rcases hv with hv | ⟨hv, hv2⟩
  all_goals
    go_enter Tryz.func75, Tryz.ntmps75
    go_wp2
    go_loop [17] (fun t => ∃ k : Nat, k ≤ s.size ∧ t = .int .i64 k ∧ Hid (allDigits (rest s k) = true)) (fun t => s.size - (intOf t).toNat)
    case atStart => exact ⟨0, by omega, rfl, hD⟩
    case round =>
      obtain ⟨k, hk, rfl, hK⟩ := hrel
      by_cases hlt : k < s.size
      · have hs := digits_step s k hlt
        have hc : digitB s[k] = true := by
          have := hK.out; rw [hs] at this; simp only [Bool.and_eq_true] at this; exact this.1
        have hz : Hid (allDigits (rest s (k + 1)) = true) := by
          have := hK.out; rw [hs] at this; simp only [Bool.and_eq_true] at this; exact this.2
        clear hs hK
        go_wp2_with (go_at_call 73; refine (isDigit_any _ _).mono ?_; rintro e w' ⟨rfl, rfl⟩)
        go_round
        case rel => exact ⟨k + 1, by omega, by go_num, hz⟩
        case measure => simp [intOf]; omega
      · clear hK
        go_wp2_with fail
        refine (parse_ok s hm hp HD.out HI.out _).mono ?_
        rintro e w1 ⟨rfl, hb⟩
        obtain ⟨hc, hf⟩ := bcell hb
        have hz : w.heap.size + 1 ≤ w1.heap.size := by have := hb.size; simp at this; omega
        go_wp2
        obtain ⟨hc, _⟩ := bcell hb
        refine bodyPost_ret (v := .tuple #[tokV 2 (intVal s.data.toList) [] 0 0, .int .i64 0]) ?_ rfl ⟨rfl, ?_⟩
        · simp [results, Tryz.results75, go_sem, hc]
        · exact (((((((Below.refl _ _).alloc (Nat.le_refl _) _).trans (hb.mono (by simp))).setCell (by simp) _).setCell (by simp) _).setCell (by simp) _).setCell (by simp) _).setCell (by simp) _
set_option maxHeartbeats 1000000 in
theorem integer_large (s : ByteArray) (hm : s.size ≤ 140737488355328) (hp : 0 < s.size) (h0 : s[0].toNat ≠ 48 ∨ s.data.toList = [48]) (hd : allDigits s.data.toList = true) (hi : ¬ intVal s.data.toList < 9223372036854775808) (w : World) (hr : RangeVar w) :
    Calls Tryz.prog 75 #[.string s] w fun e w' => e = .returned (.tuple #[tokV 0 0 [] 0 0, .int .i64 9]) ∧ Below w.heap.size w w' := by
  have hv : ((s[0].toNat : Int) == 48) = false ∨ ((s.toList == [48]) = true ∧ (s[0].toNat : Int) = 48) := by
    rcases h0 with h0 | h0
    · exact .inl (beq_eq_false_iff_ne.2 (by omega))
    · refine .inr ⟨toList_is _ _ h0, ?_⟩
      have := head_of s hp
      rw [h0] at this
      have h1 : (48 : UInt8) = s[0] := by injection this
      rw [← h1]; rfl
  have hD : Hid (allDigits (rest s 0) = true) := hd
  have HD := Lib.hid hd
  have HI := Lib.hid hi
  have hR := Lib.hid hr
  clear h0 hd hi hr
  rcases hv with hv | ⟨hv, hv2⟩
  all_goals
    go_enter Tryz.func75, Tryz.ntmps75
    go_wp2
    go_loop [17] (fun t => ∃ k : Nat, k ≤ s.size ∧ t = .int .i64 k ∧ Hid (allDigits (rest s k) = true)) (fun t => s.size - (intOf t).toNat)
    case atStart => exact ⟨0, by omega, rfl, hD⟩
    case round =>
      obtain ⟨k, hk, rfl, hK⟩ := hrel
      by_cases hlt : k < s.size
      · have hs := digits_step s k hlt
        have hc : digitB s[k] = true := by
          have := hK.out; rw [hs] at this; simp only [Bool.and_eq_true] at this; exact this.1
        have hz : Hid (allDigits (rest s (k + 1)) = true) := by
          have := hK.out; rw [hs] at this; simp only [Bool.and_eq_true] at this; exact this.2
        clear hs hK
        go_wp2_with (go_at_call 73; refine (isDigit_any _ _).mono ?_; rintro e w' ⟨rfl, rfl⟩)
        go_round
        case rel => exact ⟨k + 1, by omega, by go_num, hz⟩
        case measure => simp [intOf]; omega
      · clear hK
        go_wp2_with fail
        refine (parse_range s hm hp HD.out HI.out _ (hR.out.alloc _)).mono ?_
        rintro e w1 ⟨v, N, rfl, hb⟩
        obtain ⟨hc, hf⟩ := bcell hb
        have hz : w.heap.size + 1 ≤ w1.heap.size := by have := hb.size; simp at this; omega
        go_wp2
        obtain ⟨hc, _⟩ := bcell hb
        refine bodyPost_ret (v := .tuple #[tokV 0 0 [] 0 0, .int .i64 9]) ?_ rfl ⟨rfl, ?_⟩
        · simp [results, Tryz.results75, go_sem, hc]
        · exact (((((((Below.refl _ _).alloc (Nat.le_refl _) _).trans (hb.mono (by simp))).setCell (by simp) _).setCell (by simp) _).setCell (by simp) _).setCell (by simp) _).setCell (by simp) _


theorem head?_of (s : ByteArray) (hp : 0 < s.size) : s.data.toList.head? = some s[0] := by rw [head_of s hp]; rfl
theorem eq_of_toNat (c : UInt8) (n : Nat) (hn : n < 256) : c = UInt8.ofNat n ↔ c.toNat = n := by
  rw [← UInt8.toNat_inj]; simp [Nat.mod_eq_of_lt hn]

theorem integer_any (s : ByteArray) (hm : s.size ≤ 140737488355328) (hp : 0 < s.size) (w : World) (hr : RangeVar w) :
    Calls Tryz.prog 75 #[.string s] w fun e w' => e = .returned (itemV (intR s.data.toList)) ∧ Below w.heap.size w w' := by
  have hh : (s.data.toList.head? = some 48) ↔ s[0].toNat = 48 := by
    rw [head?_of s hp, Option.some_inj]; exact eq_of_toNat _ 48 (by decide)
  unfold intR
  by_cases h1 : s[0].toNat = 48 ∧ s.data.toList ≠ [48]
  · rw [if_pos ⟨hh.2 h1.1, h1.2⟩]; exact integer_zero s hp h1.1 h1.2 w
  · rw [if_neg (fun h => h1 ⟨hh.1 h.1, h.2⟩)]
    have h0 : s[0].toNat ≠ 48 ∨ s.data.toList = [48] := by
      by_cases h : s[0].toNat = 48
      · exact .inr (Classical.byContradiction fun hn => h1 ⟨h, hn⟩)
      · exact .inl h
    cases hd : allDigits s.data.toList
    · rw [if_pos rfl]; exact integer_bad s hm hp h0 hd w
    · rw [if_neg (by decide)]
      by_cases hi : intVal s.data.toList < 9223372036854775808
      · rw [if_pos hi]; exact integer_small s hm hp h0 hd hi w
      · rw [if_neg hi]; exact integer_large s hm hp h0 hd hi w hr

set_option maxHeartbeats 1000000 in
theorem word_digit (s : ByteArray) (hm : s.size ≤ 140737488355328) (hp : 0 < s.size) (hd : digitB s[0] = true) (w : World) (hr : RangeVar w) :
    Calls Tryz.prog 70 #[.string s] w fun e w' => e = .returned (itemV (intR s.data.toList)) ∧ Below w.heap.size w w' := by
  have hI := fun W h => integer_any s hm hp W h
  generalize intR s.data.toList = t at hI
  obtain ⟨k, n, st, er⟩ := t
  unfold itemV at hI ⊢
  have HI := Lib.hid hI
  have hR := Lib.hid hr
  clear hI hr
  go_enter Tryz.func70, Tryz.ntmps70
  go_wp2_with (go_at_call 73; refine (isDigit_any _ _).mono ?_; rintro e w' ⟨rfl, rfl⟩)
  refine (HI.out _ (hR.out.alloc _)).mono ?_
  rintro e w1 ⟨rfl, hb⟩
  obtain ⟨hc, hf⟩ := bcell hb
  have hz : w.heap.size + 1 ≤ w1.heap.size := by have := hb.size; simp at this; omega
  go_wp2
  obtain ⟨hc, _⟩ := bcell hb
  refine bodyPost_ret (v := .tuple #[tokV k n st 0 0, .int .i64 er]) ?_ rfl ⟨rfl, ?_⟩
  · simp [results, Tryz.results70, go_sem, hc]
  · exact (((((((Below.refl _ _).alloc (Nat.le_refl _) _).trans (hb.mono (by simp))).setCell (by simp) _).setCell (by simp) _).setCell (by simp) _).setCell (by simp) _).setCell (by simp) _

set_option maxHeartbeats 1000000 in
theorem word_kw (s : ByteArray) (hp : 0 < s.size) (hd : digitB s[0] = false) (hk : kwB s.data.toList = true) (w : World) :
    Calls Tryz.prog 70 #[.string s] w fun e w' => e = .returned (.tuple #[tokV 3 0 s.data.toList 0 0, .int .i64 0]) ∧ Below w.heap.size w w' := by
  have HK := Lib.hid hk
  clear hk
  go_enter Tryz.func70, Tryz.ntmps70
  go_wp2_with (first | (go_at_call 73; refine (isDigit_any _ _).mono ?_; rintro e w' ⟨rfl, rfl⟩) | (go_at_call 76; refine (keyword_yes _ _ HK.out).mono ?_; rintro e w' ⟨rfl, rfl⟩))
  refine bodyPost_ret (v := .tuple #[tokV 3 0 s.data.toList 0 0, .int .i64 0]) ?_ rfl ⟨rfl, ?_⟩
  · simp only [tokV]
    simp [results, Tryz.results70, go_sem]
  · exact (Below.refl _ _).alloc (Nat.le_refl _) _

set_option maxHeartbeats 1000000 in
theorem word_name (s : ByteArray) (hp : 0 < s.size) (hd : digitB s[0] = false) (hk : kwB s.data.toList = false) (hl : s.size ≤ 64) (w : World) :
    Calls Tryz.prog 70 #[.string s] w fun e w' => e = .returned (.tuple #[tokV 1 0 s.data.toList 0 0, .int .i64 0]) ∧ Below w.heap.size w w' := by
  have HK := Lib.hid hk
  clear hk
  go_enter Tryz.func70, Tryz.ntmps70
  go_wp2_with (first | (go_at_call 73; refine (isDigit_any _ _).mono ?_; rintro e w' ⟨rfl, rfl⟩) | (go_at_call 76; refine (keyword_no _ _ HK.out).mono ?_; rintro e w' ⟨rfl, rfl⟩))
  refine bodyPost_ret (v := .tuple #[tokV 1 0 s.data.toList 0 0, .int .i64 0]) ?_ rfl ⟨rfl, ?_⟩
  · simp only [tokV]
    simp [results, Tryz.results70, go_sem]
  · exact (Below.refl _ _).alloc (Nat.le_refl _) _

set_option maxHeartbeats 1000000 in
theorem word_long (s : ByteArray) (hm : s.size ≤ 140737488355328) (hp : 0 < s.size) (hd : digitB s[0] = false) (hk : kwB s.data.toList = false) (hl : 64 < s.size) (w : World) :
    Calls Tryz.prog 70 #[.string s] w fun e w' => e = .returned (.tuple #[tokV 0 0 [] 0 0, .int .i64 2]) ∧ Below w.heap.size w w' := by
  have HK := Lib.hid hk
  clear hk
  go_enter Tryz.func70, Tryz.ntmps70
  go_wp2_with (first | (go_at_call 73; refine (isDigit_any _ _).mono ?_; rintro e w' ⟨rfl, rfl⟩) | (go_at_call 76; refine (keyword_no _ _ HK.out).mono ?_; rintro e w' ⟨rfl, rfl⟩))
  refine bodyPost_ret (v := .tuple #[tokV 0 0 [] 0 0, .int .i64 2]) ?_ rfl ⟨rfl, ?_⟩
  · simp [results, Tryz.results70, go_sem]
  · exact (Below.refl _ _).alloc (Nat.le_refl _) _

theorem wordToken_any (s : ByteArray) (hm : s.size ≤ 140737488355328) (hp : 0 < s.size) (w : World) (hr : RangeVar w) :
    Calls Tryz.prog 70 #[.string s] w fun e w' => e = .returned (itemV (wordR s.data.toList)) ∧ Below w.heap.size w w' := by
  have hz : s.size = s.data.toList.length := by simp
  unfold wordR
  rw [head?_of s hp]
  cases hd : digitB s[0]
  · rw [if_neg (by simp [hd])]
    cases hk : kwB s.data.toList
    · rw [if_neg (by decide)]
      by_cases hl : s.data.toList.length ≤ 64
      · rw [if_pos hl]; exact word_name s hp hd hk (by omega) w
      · rw [if_neg hl]; exact word_long s hm hp hd hk (by omega) w
    · rw [if_pos rfl]; exact word_kw s hp hd hk w
  · rw [if_pos (by simp [hd])]; exact word_digit s hm hp hd w hr

end Go.Proofs.YtkjjagmpnnnimaaGreatDoor

namespace Go.Proofs.YtkjjagmpnnnimaaGreatDoor
open Go.RowKit M

theorem wordN_eq (s : ByteArray) (hp : 0 < s.size) (h : (letterB s[0] || digitB s[0]) = true) : wordN s.data.toList = 1 + wlen (rest s 1) := by
  rw [head_of s hp]; unfold wordN; simp [h]
theorem take_size (s : ByteArray) (n : Nat) (h : n ≤ s.size) : (s.extract 0 n).size = n := by
  rw [ByteArray.size_extract]; omega
theorem isEmptyS (y : Bs) (h : y ≠ []) : 0 < (S y).size := by
  cases y with
  | nil => exact absurd rfl h
  | cons a b => simp [ByteArray.size]

def itemV3 (t : TR) (n : Nat) : Value := .tuple #[tokV t.kind t.num t.str 0 0, .int .i64 n, .int .i64 t.err]

set_option maxHeartbeats 1000000 in
theorem item_none (s : ByteArray) (h : wordN s.data.toList = 0) (hy : symB s.data.toList = []) (w : World) :
    Calls Tryz.prog 66 #[.string s] w fun e w' => e = .returned (.tuple #[tokV 0 0 [] 0 0, .int .i64 (0 : Nat), .int .i64 2]) ∧ Below w.heap.size w w' := by
  have hS := fun W => symbol_any s W
  rw [hy] at hS
  have HS := Lib.hid hS
  have HW := Lib.hid h
  clear hS h hy
  go_enter Tryz.func66, Tryz.ntmps66
  go_wp2_with fail
  refine (word_none s HW.out _).mono ?_
  rintro e w' ⟨rfl, rfl⟩
  go_wp2_with fail
  refine (HS.out _).mono ?_
  rintro e w1 ⟨rfl, hb⟩
  obtain ⟨hc, hf⟩ := bcell hb
  have hz : w.heap.size + 1 ≤ w1.heap.size := by have := hb.size; simp at this; omega
  go_wp2
  obtain ⟨hc, _⟩ := bcell hb
  refine bodyPost_ret (v := .tuple #[tokV 0 0 [] 0 0, .int .i64 (0 : Nat), .int .i64 2]) ?_ rfl ⟨rfl, ?_⟩
  · simp [results, Tryz.results66, go_sem, hc]
  · exact (((((((Below.refl _ _).alloc (Nat.le_refl _) _).trans (hb.mono (by simp))).setCell (by simp) _).setCell (by simp) _).setCell (by simp) _).setCell (by simp) _).setCell (by simp) _

set_option maxHeartbeats 1000000 in
theorem item_symbol (s : ByteArray) (y : Bs) (h : wordN s.data.toList = 0) (hy : symB s.data.toList = y) (hne : y ≠ []) (hl : y.length ≤ 3000) (w : World) :
    Calls Tryz.prog 66 #[.string s] w fun e w' => e = .returned (.tuple #[tokV 4 0 y 0 0, .int .i64 y.length, .int .i64 0]) ∧ Below w.heap.size w w' := by
  have hS := fun W => symbol_any s W
  rw [hy] at hS
  obtain ⟨e1, e2⟩ := notEmpty (S y) (isEmptyS y hne)
  have HY : Hid ((S y).size = y.length) := by unfold Hid; rfl
  have HS := Lib.hid hS
  have HW := Lib.hid h
  clear hS h hy
  generalize hq : S y = q at *
  have hQ := Lib.hid hq
  clear hq
  have hq64 : q.size ≤ 3000 := by rw [HY.out]; exact hl
  clear hl
  go_enter Tryz.func66, Tryz.ntmps66
  go_wp2_with fail
  refine (word_none s HW.out _).mono ?_
  rintro e w' ⟨rfl, rfl⟩
  go_wp2_with fail
  refine (HS.out _).mono ?_
  rintro e w1 ⟨rfl, hb⟩
  obtain ⟨hc, hf⟩ := bcell hb
  have hz : w.heap.size + 1 ≤ w1.heap.size := by have := hb.size; simp at this; omega
  go_wp2
  obtain ⟨hc, _⟩ := bcell hb
  refine bodyPost_ret (v := .tuple #[tokV 4 0 y 0 0, .int .i64 y.length, .int .i64 0]) ?_ rfl ⟨rfl, ?_⟩
  · rw [← HY.out]
    unfold tokV
    rw [hQ.out]
    simp [results, Tryz.results66, go_sem, hc]
  · exact (((((((Below.refl _ _).alloc (Nat.le_refl _) _).trans (hb.mono (by simp))).setCell (by simp) _).setCell (by simp) _).setCell (by simp) _).setCell (by simp) _).setCell (by simp) _

/-- what a contract leaves of the blocks that were there, also when a new block is made behind it -/
theorem bcell_alloc {W w1 : World} (hb : Below W.heap.size W w1) : (∀ (x : Obj) b o, b < W.heap.size → (w1.alloc x).cell? ⟨b, o, none⟩ = W.cell? ⟨b, o, none⟩) ∧ (∀ (x : Obj) b o, b < W.heap.size → (w1.alloc x).frozen? ⟨b, o, none⟩ = W.frozen? ⟨b, o, none⟩) :=
  ⟨fun x b o h => ((hb.alloc hb.size x).cell (p := ⟨b, o, none⟩) h), fun x b o h => ((hb.alloc hb.size x).frozen (p := ⟨b, o, none⟩) h)⟩

def WordCall (s q : ByteArray) : Prop := ∀ W, Calls Tryz.prog 69 #[.string s] W fun e w' => e = .returned (.string q) ∧ W = w'
def TokCall (q : ByteArray) (k n er : Int) (st : Bs) : Prop := ∀ W, RangeVar W → Calls Tryz.prog 70 #[.string q] W fun e w' => e = .returned (.tuple #[tokV k n st 0 0, .int .i64 er]) ∧ Below W.heap.size W w'

set_option maxHeartbeats 1000000 in
theorem item_core (s q : ByteArray) (hq : 0 < q.size) (k n er : Int) (st : Bs) (HW : WordCall s q) (HT : TokCall q k n er st) (w : World) (hr : RangeVar w) :
    Calls Tryz.prog 66 #[.string s] w fun e w' => e = .returned (.tuple #[tokV k n st 0 0, .int .i64 q.size, .int .i64 er]) ∧ Below w.heap.size w w' := by
  obtain ⟨e1, e2⟩ := notEmpty q hq
  have hR := Lib.hid hr
  clear hr
  go_enter Tryz.func66, Tryz.ntmps66
  go_wp2_with fail
  refine (HW _).mono ?_
  rintro e w' ⟨rfl, rfl⟩
  go_wp2_with fail
  refine (HT _ (hR.out.alloc _)).mono ?_
  rintro e w1 ⟨rfl, hb⟩
  obtain ⟨hc, hf⟩ := bcell_alloc hb
  have hz : w.heap.size + 1 ≤ w1.heap.size := by have := hb.size; simp at this; omega
  go_wp2
  obtain ⟨hc, _⟩ := bcell_alloc hb
  refine bodyPost_ret (v := .tuple #[tokV k n st 0 0, .int .i64 q.size, .int .i64 er]) ?_ rfl ⟨rfl, ?_⟩
  · simp [results, Tryz.results66, go_sem, hc]
  · exact ((((((((Below.refl _ _).alloc (Nat.le_refl _) _).trans (hb.mono (by simp))).alloc (by omega) _).setCell (by simp) _).setCell (by simp) _).setCell (by simp) _).setCell (by simp) _).setCell (by simp) _

theorem item_word (s : ByteArray) (hm : s.size ≤ 140737488355328) (hp : 0 < s.size) (h : (letterB s[0] || digitB s[0]) = true) (w : World) (hr : RangeVar w) :
    Calls Tryz.prog 66 #[.string s] w fun e w' => e = .returned (itemV3 (wordR (s.data.toList.take (wordN s.data.toList))) (wordN s.data.toList)) ∧ Below w.heap.size w w' := by
  have hle := wordN_le s.data.toList
  have hlen : s.data.toList.length = s.size := by simp
  have hw := wordN_eq s hp h
  have hqs : (s.extract 0 (wordN s.data.toList)).size = wordN s.data.toList := take_size _ _ (by omega)
  have hW : WordCall s (s.extract 0 (wordN s.data.toList)) := fun W => by rw [hw]; exact word_some s (by unfold maxLen; omega) hp h W
  have hT := fun W hr => wordToken_any (s.extract 0 (wordN s.data.toList)) (by omega) (by omega) W hr
  rw [extract_take] at hT
  generalize wordR (List.take (wordN s.data.toList) s.data.toList) = t at *
  obtain ⟨k, n, st, er⟩ := t
  have := item_core s (s.extract 0 (wordN s.data.toList)) (by omega) k n er st hW hT w hr
  rw [hqs] at this
  exact this

theorem symOf_le (c : UInt8) (l : Bs) : (symOf c l).length ≤ 4 := by
  have hf : ∀ ps : List Bs, (∀ p, p ∈ ps → p.length ≤ 4) → (firstP l ps).length ≤ 4 := by
    intro ps
    induction ps with
    | nil => intro _; simp [firstP]
    | cons p ps ih =>
      intro h
      unfold firstP
      split
      · exact h p (by simp)
      · exact ih fun q hq => h q (by simp [hq])
  have hi : ∀ (c : Prop) [Decidable c] (a b : Bs), a.length ≤ 4 → b.length ≤ 4 → (if c then a else b).length ≤ 4 := by
    intro c _ a b ha hb; split <;> assumption
  unfold symOf
  refine hi _ _ _ (hf _ (by decide)) (hi _ _ _ (hf _ (by decide)) (hi _ _ _ (hf _ (by decide)) (hi _ _ _ ?_ ?_)))
  · unfold parenP; exact hi _ _ _ (by decide) (hf _ (by decide))
  · iterate 11 refine hi _ _ _ (hf _ (by decide)) ?_
    exact hi _ _ _ (by simp) (by simp)
theorem symB_le (l : Bs) : (symB l).length ≤ 4 := by
  unfold symB
  split
  · simp
  · exact symOf_le _ _

theorem wordN_zero (s : ByteArray) (hp : 0 < s.size) (h : (letterB s[0] || digitB s[0]) = false) : wordN s.data.toList = 0 := by
  rw [head_of s hp]; unfold wordN; simp [h]

theorem item_any (s : ByteArray) (hm : s.size ≤ 140737488355328) (hp : 0 < s.size) (w : World) (hr : RangeVar w) :
    Calls Tryz.prog 66 #[.string s] w fun e w' => e = .returned (itemV3 (itemR s.data.toList) (itemN s.data.toList)) ∧ Below w.heap.size w w' := by
  unfold itemR itemN
  cases h : (letterB s[0] || digitB s[0])
  · have h0 := wordN_zero s hp h
    simp only [h0, ne_eq, not_true_eq_false, if_false]
    by_cases hy : symB s.data.toList = []
    · rw [if_neg (fun h => h hy), hy]; exact item_none s h0 hy w
    · rw [if_pos hy]; exact item_symbol s _ h0 rfl hy (by have := symB_le s.data.toList; omega) w
  · have h1 : wordN s.data.toList ≠ 0 := by rw [wordN_eq s hp h]; omega
    rw [if_pos h1, if_pos h1]
    exact item_word s hm hp h w hr

end Go.Proofs.YtkjjagmpnnnimaaGreatDoor
