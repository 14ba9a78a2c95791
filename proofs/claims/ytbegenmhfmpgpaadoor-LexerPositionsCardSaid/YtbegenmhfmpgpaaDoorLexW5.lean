/- What the lexer's integerToken, wordToken and item return, for strings of at most 65536 bytes. -/
import Derived.Test.YtbegenmhfmpgpaaDoorLexW4
namespace Go.Proofs.YtbegenmhfmpgpaaDoor
open Go.RowKit M

/-- the variable strconv.ErrRange holds an interface value -/
def RangeVar (w : World) : Prop := ∃ tp p, w.var? Tryd.prog "strconv.ErrRange" = some #[.iface tp p]
theorem global_range : Tryd.prog.globalNamed "strconv.ErrRange" = some 2 := by kernel_rfl
theorem RangeVar.lt {w : World} (h : RangeVar w) : 2 < w.heap.size := by
  obtain ⟨tp, p, h⟩ := h
  rcases Nat.lt_or_ge 2 w.heap.size with hlt | hge
  · exact hlt
  · unfold World.var? at h
    simp [global_range, Array.getElem?_eq_none hge] at h
theorem RangeVar.below {w w' : World} (h : RangeVar w) (hb : Below w.heap.size w w') : RangeVar w' := by
  have hl := h.lt
  obtain ⟨tp, p, h⟩ := h
  refine ⟨tp, p, ?_⟩
  unfold World.var? at h ⊢
  simp only [global_range, Option.bind_some] at h ⊢
  rw [hb.block _ hl]
  exact h
theorem RangeVar.alloc {w : World} (h : RangeVar w) (o : Obj) : RangeVar (w.alloc o) := h.below ((Below.refl _ _).alloc (Nat.le_refl _) _)

/-- a token's value -/
abbrev tokV (k n : Int) (s : Bs) (l c : Int) : Value := .agg #[.int .i64 k, .int .i64 n, .string (S s), .int .i64 l, .int .i64 c]
def itemV (t : TR) : Value := .tuple #[tokV t.kind t.num t.str 0 0, .int .i64 t.err]

theorem bcell {W w1 : World} (hb : Below W.heap.size W w1) : (∀ b o, b < W.heap.size → w1.cell? ⟨b, o, none⟩ = W.cell? ⟨b, o, none⟩) ∧ (∀ b o, b < W.heap.size → w1.frozen? ⟨b, o, none⟩ = W.frozen? ⟨b, o, none⟩) :=
  ⟨fun b o h => hb.cell (p := ⟨b, o, none⟩) h, fun b o h => hb.frozen (p := ⟨b, o, none⟩) h⟩

set_option maxHeartbeats 600000 in
theorem integer_zero (s : ByteArray) (hp : 0 < s.size) (h0 : s[0].toNat = 48) (h1 : s.data.toList ≠ [48]) (w : World) :
    Calls Tryd.prog 76 #[.string s] w fun e w' => e = .returned (.tuple #[tokV 0 0 [] 0 0, .int .i64 2]) ∧ Below w.heap.size w w' := by
  have hv := cast_of _ _ h0
  have hne := toList_ne s _ h1
  clear h0 h1
  go_enter Tryd.func76, Tryd.ntmps76
  go_wp2
  exact bodyPost_ret (v := .tuple #[tokV 0 0 [] 0 0, .int .i64 2]) (by simp [results, Tryd.results76, go_sem]) rfl ⟨rfl, (Below.refl _ _).alloc (Nat.le_refl _) _⟩

theorem parse_ok (s : ByteArray) (hm : s.size ≤ 140737488355328) (hp : 0 < s.size) (hd : allDigits s.data.toList = true) (hl : intVal s.data.toList < 9223372036854775808) (w : World) :
    Calls Tryd.prog 94 #[.string s, .int .i64 10, .int .i64 64] w fun e w' => e = .returned (.tuple #[.int .i64 (intVal s.data.toList), .nilIface]) ∧ Below w.heap.size w w' := by
  have hne : s.data.toList ≠ [] := by rw [head_of s hp]; simp
  refine (Tryd.strconv_ParseInt_10_at64_ok s (by omega) (intVal s.data.toList) (by rw [parse_digits _ hne hd, if_pos hl]) w).mono ?_
  rintro e w' ⟨he, hw⟩
  refine ⟨he, ?_⟩
  rcases hw with rfl | ⟨t, rfl⟩
  · exact Below.refl _ _
  · exact Lib.bytesWorld_below _ _ _
def AnErr (w : World) (e : Ending) (w' : World) : Prop := ∃ v N, e = .returned (.tuple #[.int .i64 v, .iface 133 (.pointer (some ⟨N, 0, none⟩))]) ∧ Below w.heap.size w w'
theorem parse_range (s : ByteArray) (hm : s.size ≤ 140737488355328) (hp : 0 < s.size) (hd : allDigits s.data.toList = true) (hl : ¬ intVal s.data.toList < 9223372036854775808) (w : World) (hr : RangeVar w) :
    Calls Tryd.prog 94 #[.string s, .int .i64 10, .int .i64 64] w (AnErr w) := by
  have hne : s.data.toList ≠ [] := by rw [head_of s hp]; simp
  obtain ⟨tp, p, hv⟩ := hr
  refine (Tryd.strconv_ParseInt_10_at64_range_var s (by omega) (by rw [parse_digits _ hne hd, if_neg hl]) tp p w hv).mono ?_
  rintro e w' ⟨N, he, _, _, hb⟩
  exact ⟨_, N, he, hb⟩

theorem digits_step (s : ByteArray) (k : Nat) (h : k < s.size) : allDigits (rest s k) = (digitB s[k] && allDigits (rest s (k + 1))) := by
  rw [rest_cons s k h]; rfl

set_option maxHeartbeats 1000000 in
theorem integer_bad (s : ByteArray) (hm : s.size ≤ 140737488355328) (hp : 0 < s.size) (h0 : s[0].toNat ≠ 48 ∨ s.data.toList = [48]) (hd : allDigits s.data.toList = false) (w : World) :
    Calls Tryd.prog 76 #[.string s] w fun e w' => e = .returned (.tuple #[tokV 0 0 [] 0 0, .int .i64 2]) ∧ Below w.heap.size w w' := by
  have h0 : s[0].toNat ≠ 48 := by
    rcases h0 with h0 | h0
    · exact h0
    · rw [h0] at hd; exact absurd hd (by decide)
  have hv : ((s[0].toNat : Int) == 48) = false := beq_eq_false_iff_ne.2 (by omega)
  have hD : Hid (allDigits (rest s 0) = false) := hd
  clear h0 hd
  go_enter Tryd.func76, Tryd.ntmps76
  go_wp2
  go_loop [17] (fun t => ∃ k : Nat, k ≤ s.size ∧ t = .int .i64 k ∧ Hid (allDigits (rest s k) = false)) (fun t => s.size - (intOf t).toNat)
  case atStart => exact ⟨0, by omega, rfl, hD⟩
  case round =>
    obtain ⟨k, hk, rfl, hK⟩ := hrel
    have hlt : k < s.size := by
      rcases Nat.lt_or_ge k s.size with h | h
      · exact h
      · have := hK.out; rw [rest_end s k h] at this; exact absurd this (by decide)
    have hs := digits_step s k hlt
    cases hc : digitB s[k]
    · clear hs hK
      go_wp2_with (go_at_call 74; refine (isDigit_any _ _).mono ?_; rintro e w' ⟨rfl, rfl⟩)
      exact bodyPost_ret (v := .tuple #[tokV 0 0 [] 0 0, .int .i64 2]) (by simp [results, Tryd.results76, go_sem]) rfl ⟨rfl, (Below.refl _ _).alloc (Nat.le_refl _) _⟩
    · have hz : Hid (allDigits (rest s (k + 1)) = false) := by
        have := hK.out; rw [hs, hc] at this; unfold Hid; simpa using this
      clear hs hK
      go_wp2_with (go_at_call 74; refine (isDigit_any _ _).mono ?_; rintro e w' ⟨rfl, rfl⟩)
      go_round
      case rel => exact ⟨k + 1, by omega, by go_num, hz⟩
      case measure => simp [intOf]; omega

set_option maxHeartbeats 1000000 in
theorem integer_small (s : ByteArray) (hm : s.size ≤ 140737488355328) (hp : 0 < s.size) (h0 : s[0].toNat ≠ 48 ∨ s.data.toList = [48]) (hd : allDigits s.data.toList = true) (hi : intVal s.data.toList < 9223372036854775808) (w : World) :
    Calls Tryd.prog 76 #[.string s] w fun e w' => e = .returned (.tuple #[tokV 2 (intVal s.data.toList) [] 0 0, .int .i64 0]) ∧ Below w.heap.size w w' := by
  have hv : ((s[0].toNat : Int) == 48) = false ∨ ((s.toList == [48]) = true ∧ (s[0].toNat : Int) = 48) := by
    rcases h0 with h0 | h0
    · exact .inl (beq_eq_false_iff_ne.2 (by omega))
    · refine .inr ⟨toList_is _ _ h0, ?_⟩
      have := head_of s hp
      rw [h0] at this
      have h1 : (48 : UInt8) = s[0] := by injection this
      rw [← h1]; rfl
  have hD : Hid (allDigits (rest s 0) = true) := hd
  have HD := Lib.hid hd
  have HI := Lib.hid hi
  clear h0 hd hi
  rcases hv with hv | ⟨hv, hv2⟩
  all_goals
    go_enter Tryd.func76, Tryd.ntmps76
    go_wp2
    go_loop [17] (fun t => ∃ k : Nat, k ≤ s.size ∧ t = .int .i64 k ∧ Hid (allDigits (rest s k) = true)) (fun t => s.size - (intOf t).toNat)
    case atStart => exact ⟨0, by omega, rfl, hD⟩
    case round =>
      obtain ⟨k, hk, rfl, hK⟩ := hrel
      by_cases hlt : k < s.size
      · have hs := digits_step s k hlt
        have hc : digitB s[k] = true := by
          have := hK.out; rw [hs] at this; simp only [Bool.and_eq_true] at this; exact this.1
        have hz : Hid (allDigits (rest s (k + 1)) = true) := by
          have := hK.out; rw [hs] at this; simp only [Bool.and_eq_true] at this; exact this.2
        clear hs hK
        go_wp2_with (go_at_call 74; refine (isDigit_any _ _).mono ?_; rintro e w' ⟨rfl, rfl⟩)
        go_round
        case rel => exact ⟨k + 1, by omega, by go_num, hz⟩
        case measure => simp [intOf]; omega
      · clear hK
        go_wp2_with fail
        refine (parse_ok s hm hp HD.out HI.out _).mono ?_
        rintro e w1 ⟨rfl, hb⟩
        obtain ⟨hc, hf⟩ := bcell hb
        have hz : w.heap.size + 1 ≤ w1.heap.size := by have := hb.size; simp at this; omega
        go_wp2
        obtain ⟨hc, _⟩ := bcell hb
        refine bodyPost_ret (v := .tuple #[tokV 2 (intVal s.data.toList) [] 0 0, .int .i64 0]) ?_ rfl ⟨rfl, ?_⟩
        · simp [results, Tryd.results76, go_sem, hc]
        · exact (((((((Below.refl _ _).alloc (Nat.le_refl _) _).trans (hb.mono (by simp))).setCell (by simp) _).setCell (by simp) _).setCell (by simp) _).setCell (by simp) _).setCell (by simp) _
set_option maxHeartbeats 1000000 in
theorem integer_large (s : ByteArray) (hm : s.size ≤ 140737488355328) (hp : 0 < s.size) (h0 : s[0].toNat ≠ 48 ∨ s.data.toList = [48]) (hd : allDigits s.data.toList = true) (hi : ¬ intVal s.data.toList < 9223372036854775808) (w : World) (hr : RangeVar w) :
    Calls Tryd.prog 76 #[.string s] w fun e w' => e = .returned (.tuple #[tokV 0 0 [] 0 0, .int .i64 9]) ∧ Below w.heap.size w w' := by
  have hv : ((s[0].toNat : Int) == 48) = false ∨ ((s.toList == [48]) = true ∧ (s[0].toNat : Int) = 48) := by
    rcases h0 with h0 | h0
    · exact .inl (beq_eq_false_iff_ne.2 (by omega))
    · refine .inr ⟨toList_is _ _ h0, ?_⟩
      have := head_of s hp
      rw [h0] at this
      have h1 : (48 : UInt8) = s[0] := by injection this
      rw [← h1]; rfl
  have hD : Hid (allDigits (rest s 0) = true) := hd
  have HD := Lib.hid hd
  have HI := Lib.hid hi
  have hR := Lib.hid hr
  clear h0 hd hi hr
  rcases hv with hv | ⟨hv, hv2⟩
  all_goals
    go_enter Tryd.func76, Tryd.ntmps76
    go_wp2
    go_loop [17] (fun t => ∃ k : Nat, k ≤ s.size ∧ t = .int .i64 k ∧ Hid (allDigits (rest s k) = true)) (fun t => s.size - (intOf t).toNat)
    case atStart => exact ⟨0, by omega, rfl, hD⟩
    case round =>
      obtain ⟨k, hk, rfl, hK⟩ := hrel
      by_cases hlt : k < s.size
      · have hs := digits_step s k hlt
        have hc : digitB s[k] = true := by
          have := hK.out; rw [hs] at this; simp only [Bool.and_eq_true] at this; exact this.1
        have hz : Hid (allDigits (rest s (k + 1)) = true) := by
          have := hK.out; rw [hs] at this; simp only [Bool.and_eq_true] at this; exact this.2
        clear hs hK
        go_wp2_with (go_at_call 74; refine (isDigit_any _ _).mono ?_; rintro e w' ⟨rfl, rfl⟩)
        go_round
        case rel => exact ⟨k + 1, by omega, by go_num, hz⟩
        case measure => simp [intOf]; omega
      · clear hK
        go_wp2_with fail
        refine (parse_range s hm hp HD.out HI.out _ (hR.out.alloc _)).mono ?_
        rintro e w1 ⟨v, N, rfl, hb⟩
        obtain ⟨hc, hf⟩ := bcell hb
        have hz : w.heap.size + 1 ≤ w1.heap.size := by have := hb.size; simp at this; omega
        go_wp2
        obtain ⟨hc, _⟩ := bcell hb
        refine bodyPost_ret (v := .tuple #[tokV 0 0 [] 0 0, .int .i64 9]) ?_ rfl ⟨rfl, ?_⟩
        · simp [results, Tryd.results76, go_sem, hc]
        · exact (((((((Below.refl _ _).alloc (Nat.le_refl _) _).trans (hb.mono (by simp))).setCell (by simp) _).setCell (by simp) _).setCell (by simp) _).setCell (by simp) _).setCell (by simp) _


theorem head?_of (s : ByteArray) (hp : 0 < s.size) : s.data.toList.head? = some s[0] := by rw [head_of s hp]; rfl
theorem eq_of_toNat (c : UInt8) (n : Nat) (hn : n < 256) : c = UInt8.ofNat n ↔ c.toNat = n := by
  rw [← UInt8.toNat_inj]; simp [Nat.mod_eq_of_lt hn]

theorem integer_any (s : ByteArray) (hm : s.size ≤ 140737488355328) (hp : 0 < s.size) (w : World) (hr : RangeVar w) :
    Calls Tryd.prog 76 #[.string s] w fun e w' => e = .returned (itemV (intR s.data.toList)) ∧ Below w.heap.size w w' := by
  have hh : (s.data.toList.head? = some 48) ↔ s[0].toNat = 48 := by
    rw [head?_of s hp, Option.some_inj]; exact eq_of_toNat _ 48 (by decide)
  unfold intR
  by_cases h1 : s[0].toNat = 48 ∧ s.data.toList ≠ [48]
  · rw [if_pos ⟨hh.2 h1.1, h1.2⟩]; exact integer_zero s hp h1.1 h1.2 w
  · rw [if_neg (fun h => h1 ⟨hh.1 h.1, h.2⟩)]
    have h0 : s[0].toNat ≠ 48 ∨ s.data.toList = [48] := by
      by_cases h : s[0].toNat = 48
      · exact .inr (Classical.byContradiction fun hn => h1 ⟨h, hn⟩)
      · exact .inl h
    cases hd : allDigits s.data.toList
    · rw [if_pos rfl]; exact integer_bad s hm hp h0 hd w
    · rw [if_neg (by decide)]
      by_cases hi : intVal s.data.toList < 9223372036854775808
      · rw [if_pos hi]; exact integer_small s hm hp h0 hd hi w
      · rw [if_neg hi]; exact integer_large s hm hp h0 hd hi w hr

set_option maxHeartbeats 1000000 in
theorem word_digit (s : ByteArray) (hm : s.size ≤ 140737488355328) (hp : 0 < s.size) (hd : digitB s[0] = true) (w : World) (hr : RangeVar w) :
    Calls Tryd.prog 52 #[.string s] w fun e w' => e = .returned (itemV (intR s.data.toList)) ∧ Below w.heap.size w w' := by
  have hI := fun W h => integer_any s hm hp W h
  generalize intR s.data.toList = t at hI
  obtain ⟨k, n, st, er⟩ := t
  unfold itemV at hI ⊢
  have HI := Lib.hid hI
  have hR := Lib.hid hr
  clear hI hr
  go_enter Tryd.func52, Tryd.ntmps52
  go_wp2_with (go_at_call 74; refine (isDigit_any _ _).mono ?_; rintro e w' ⟨rfl, rfl⟩)
  refine (HI.out _ (hR.out.alloc _)).mono ?_
  rintro e w1 ⟨rfl, hb⟩
  obtain ⟨hc, hf⟩ := bcell hb
  have hz : w.heap.size + 1 ≤ w1.heap.size := by have := hb.size; simp at this; omega
  go_wp2
  obtain ⟨hc, _⟩ := bcell hb
  refine bodyPost_ret (v := .tuple #[tokV k n st 0 0, .int .i64 er]) ?_ rfl ⟨rfl, ?_⟩
  · simp [results, Tryd.results52, go_sem, hc]
  · exact (((((((Below.refl _ _).alloc (Nat.le_refl _) _).trans (hb.mono (by simp))).setCell (by simp) _).setCell (by simp) _).setCell (by simp) _).setCell (by simp) _).setCell (by simp) _

set_option maxHeartbeats 1000000 in
theorem word_kw (s : ByteArray) (hp : 0 < s.size) (hd : digitB s[0] = false) (hk : kwB s.data.toList = true) (w : World) :
    Calls Tryd.prog 52 #[.string s] w fun e w' => e = .returned (.tuple #[tokV 3 0 s.data.toList 0 0, .int .i64 0]) ∧ Below w.heap.size w w' := by
  have HK := Lib.hid hk
  clear hk
  go_enter Tryd.func52, Tryd.ntmps52
  go_wp2_with (first | (go_at_call 74; refine (isDigit_any _ _).mono ?_; rintro e w' ⟨rfl, rfl⟩) | (go_at_call 77; refine (keyword_yes _ _ HK.out).mono ?_; rintro e w' ⟨rfl, rfl⟩))
  refine bodyPost_ret (v := .tuple #[tokV 3 0 s.data.toList 0 0, .int .i64 0]) ?_ rfl ⟨rfl, ?_⟩
  · simp only [tokV]
    simp [results, Tryd.results52, go_sem]
  · exact (Below.refl _ _).alloc (Nat.le_refl _) _

set_option maxHeartbeats 1000000 in
theorem word_name (s : ByteArray) (hp : 0 < s.size) (hd : digitB s[0] = false) (hk : kwB s.data.toList = false) (hl : s.size ≤ 64) (w : World) :
    Calls Tryd.prog 52 #[.string s] w fun e w' => e = .returned (.tuple #[tokV 1 0 s.data.toList 0 0, .int .i64 0]) ∧ Below w.heap.size w w' := by
  have HK := Lib.hid hk
  clear hk
  go_enter Tryd.func52, Tryd.ntmps52
  go_wp2_with (first | (go_at_call 74; refine (isDigit_any _ _).mono ?_; rintro e w' ⟨rfl, rfl⟩) | (go_at_call 77; refine (keyword_no _ _ HK.out).mono ?_; rintro e w' ⟨rfl, rfl⟩))
  refine bodyPost_ret (v := .tuple #[tokV 1 0 s.data.toList 0 0, .int .i64 0]) ?_ rfl ⟨rfl, ?_⟩
  · simp only [tokV]
    simp [results, Tryd.results52, go_sem]
  · exact (Below.refl _ _).alloc (Nat.le_refl _) _

set_option maxHeartbeats 1000000 in
theorem word_long (s : ByteArray) (hm : s.size ≤ 140737488355328) (hp : 0 < s.size) (hd : digitB s[0] = false) (hk : kwB s.data.toList = false) (hl : 64 < s.size) (w : World) :
    Calls Tryd.prog 52 #[.string s] w fun e w' => e = .returned (.tuple #[tokV 0 0 [] 0 0, .int .i64 2]) ∧ Below w.heap.size w w' := by
  have HK := Lib.hid hk
  clear hk
  go_enter Tryd.func52, Tryd.ntmps52
  go_wp2_with (first | (go_at_call 74; refine (isDigit_any _ _).mono ?_; rintro e w' ⟨rfl, rfl⟩) | (go_at_call 77; refine (keyword_no _ _ HK.out).mono ?_; rintro e w' ⟨rfl, rfl⟩))
  refine bodyPost_ret (v := .tuple #[tokV 0 0 [] 0 0, .int .i64 2]) ?_ rfl ⟨rfl, ?_⟩
  · simp [results, Tryd.results52, go_sem]
  · exact (Below.refl _ _).alloc (Nat.le_refl _) _

theorem wordToken_any (s : ByteArray) (hm : s.size ≤ 140737488355328) (hp : 0 < s.size) (w : World) (hr : RangeVar w) :
    Calls Tryd.prog 52 #[.string s] w fun e w' => e = .returned (itemV (wordR s.data.toList)) ∧ Below w.heap.size w w' := by
  have hz : s.size = s.data.toList.length := by simp
  unfold wordR
  rw [head?_of s hp]
  cases hd : digitB s[0]
  · rw [if_neg (by simp [hd])]
    cases hk : kwB s.data.toList
    · rw [if_neg (by decide)]
      by_cases hl : s.data.toList.length ≤ 64
      · rw [if_pos hl]; exact word_name s hp hd hk (by omega) w
      · rw [if_neg hl]; exact word_long s hm hp hd hk (by omega) w
    · rw [if_pos rfl]; exact word_kw s hp hd hk w
  · rw [if_pos (by simp [hd])]; exact word_digit s hm hp hd w hr

end Go.Proofs.YtbegenmhfmpgpaaDoor
