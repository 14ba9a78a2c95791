/- simpleEnd. Condition: at most 1048576 bytes. -/
import Derived.Test.YtaambeficfiacaaGreatDoorVaP
namespace Go.Proofs.YtaambeficfiacaaGreatDoor
open Go.RowKit VM

theorem u8_ne {k c : UInt8} (h : k ≠ c) : ((k.toNat : Int) == (c.toNat : Int)) = false := beq_eq_false_iff_ne.2 fun q => h (UInt8.toNat_inj.1 (by omega))
set_option maxRecDepth 100000 in
set_option maxHeartbeats 1600000 in
theorem countOK_any (k : UInt8) (n : Nat) (hn : n < 65536) (w : World) : Calls Tryz.prog 72 #[.int .i64 (k.toNat : Int), .int .i64 (n : Int)] w fun e w' => e = .returned (.bool (countOK k n)) ∧ w = w' := by
  by_cases h3 : k = 3
  · subst h3
    go_enter Tryz.func72, Tryz.ntmps72
    go_wp2_with fail
    all_goals
      go_ret
      exact ⟨ret_b (by first | (simp [countOK]; done) | (simp [countOK]; omega) | (rw [Bool.eq_iff_iff]; simp [countOK]; omega)), rfl⟩
  by_cases h6 : k = 6
  · subst h6
    go_enter Tryz.func72, Tryz.ntmps72
    go_wp2_with fail
    all_goals
      go_ret
      exact ⟨ret_b (by first | (simp [countOK]; done) | (simp [countOK]; omega) | (rw [Bool.eq_iff_iff]; simp [countOK]; omega)), rfl⟩
  by_cases h7 : k = 7
  · subst h7
    go_enter Tryz.func72, Tryz.ntmps72
    go_wp2_with fail
    all_goals
      go_ret
      exact ⟨ret_b (by first | (simp [countOK]; done) | (simp [countOK]; omega) | (rw [Bool.eq_iff_iff]; simp [countOK]; omega)), rfl⟩
  by_cases h8 : k = 8
  · subst h8
    go_enter Tryz.func72, Tryz.ntmps72
    go_wp2_with fail
    all_goals
      go_ret
      exact ⟨ret_b (by first | (simp [countOK]; done) | (simp [countOK]; omega) | (rw [Bool.eq_iff_iff]; simp [countOK]; omega)), rfl⟩
  by_cases h9 : k = 9
  · subst h9
    go_enter Tryz.func72, Tryz.ntmps72
    go_wp2_with fail
    all_goals
      go_ret
      exact ⟨ret_b (by first | (simp [countOK]; done) | (simp [countOK]; omega) | (rw [Bool.eq_iff_iff]; simp [countOK]; omega)), rfl⟩
  have e : countOK k n = true := by unfold countOK; rw [if_neg h3, if_neg h6, if_neg h7, if_neg h8, if_neg h9]
  rw [e]
  have g3 : ((k.toNat : Int) == 3) = false := u8_ne h3
  have g6 : ((k.toNat : Int) == 6) = false := u8_ne h6
  have g7 : ((k.toNat : Int) == 7) = false := u8_ne h7
  have g8 : ((k.toNat : Int) == 8) = false := u8_ne h8
  have g9 : ((k.toNat : Int) == 9) = false := u8_ne h9
  clear h3 h6 h7 h8 h9 e
  go_enter Tryz.func72, Tryz.ntmps72
  go_wp2_with fail
  all_goals
    go_ret
    exact ⟨rfl, rfl⟩

/-- which number the head of a function or a process may have -/
theorem headOK_ne {k : UInt8} (h7 : k ≠ 7) (h8 : k ≠ 8) (h9 : k ≠ 9) (x : V) : headOK k x = true := by
  cases x <;> simp [headOK, h7, h8, h9]
theorem wf_int {d : Nat} {l : List UInt8} (h : wf d (.int l) = true) : l.length = 8 := by
  cases d with
  | zero => cases h
  | succ d => unfold wf at h; exact of_decide_eq_true h
set_option maxRecDepth 100000 in
set_option maxHeartbeats 3200000 in
theorem headOK_any (k : UInt8) (d : Nat) (s : ByteArray) (x : V) (hx : wf d x = true) (hs : bs s = enc x) (hb : s.size ≤ 1048576) (w : World) :
    Calls Tryz.prog 73 #[.int .i64 (k.toNat : Int), .string s] w fun e w' => e = .returned (.bool (headOK k x)) ∧ w = w' := by
  obtain ⟨hs0, k0⟩ := enc_first (r := []) hx (by rw [hs, List.append_nil])
  have e1 : s[0] = x.kind := by rw [bs_get s 0 hs0] at k0; exact Option.some.inj k0
  by_cases h7 : k = 7
  · subst h7
    have e : headOK 7 x = ((x.kind.toNat : Int) == 10) := by
      cases x with
      | int l => simp [headOK, V.kind]
      | bool b => simp [headOK, V.kind]
      | name a b => simp [headOK, V.kind]
      | comp k l =>
        have := (kind_comp hx).2.2
        have := u8_ne this
        simp only [V.kind]
        rw [show ((k.toNat : Int) == 10) = false from this]
        simp [headOK]
    rw [e]
    clear hx hs e k0
    generalize x.kind = q at *
    go_enter Tryz.func73, Tryz.ntmps73
    go_wp2_with fail
    all_goals
      go_ret
      exact ⟨rfl, rfl⟩
  by_cases h89 : k = 8 ∨ k = 9
  · by_cases hi : ∃ l, x = .int l
    · obtain ⟨l, rfl⟩ := hi
      obtain ⟨n1, z1⟩ := numV_int (r := []) (wf_int hx) (by rw [hs, List.append_nil]; rfl)
      have HC := Lib.hid (fun w => number_any s 1 k0 z1 hb w)
      have en : signed (numV 1 s) = numL l := by rw [n1]; rfl
      rw [en] at HC
      have e1' : s[0] = 1 := e1
      rcases h89 with rfl | rfl
      · clear hx hs k0 n1 en e1
        have he : headOK 8 (.int l) = decide (0 ≤ numL l ∧ numL l ≤ 65535) := by simp [headOK]
        rw [he]
        clear he
        generalize numL l = z at *
        go_enter Tryz.func73, Tryz.ntmps73
        go_wp2_with (go_at_call 48; refine (HC.out _).mono ?_; rintro e w' ⟨rfl, rfl⟩)
        all_goals
          go_ret
          exact ⟨ret_b (by first | (simp [*]; done) | (simp [*]; omega) | (rw [Bool.eq_iff_iff]; simp [*]; omega)), rfl⟩
      · clear hx hs k0 n1 en e1
        have he : headOK 9 (.int l) = decide (1 ≤ numL l ∧ numL l ≤ 21) := by simp [headOK]
        rw [he]
        clear he
        generalize numL l = z at *
        go_enter Tryz.func73, Tryz.ntmps73
        go_wp2_with (go_at_call 48; refine (HC.out _).mono ?_; rintro e w' ⟨rfl, rfl⟩)
        all_goals
          go_ret
          exact ⟨ret_b (by first | (simp [*]; done) | (simp [*]; omega) | (rw [Bool.eq_iff_iff]; simp [*]; omega)), rfl⟩
    · have hn1 : x.kind ≠ 1 := by
        cases x with
        | int l => exact absurd ⟨l, rfl⟩ hi
        | bool b => show (2 : UInt8) ≠ 1; decide
        | name a b => show (10 : UInt8) ≠ 1; decide
        | comp k l => exact (kind_comp hx).1
      have g1 : ((x.kind.toNat : Int) == 1) = false := u8_ne hn1
      have he : headOK k x = false := by
        cases x with
        | int l => exact absurd ⟨l, rfl⟩ hi
        | bool b => rcases h89 with rfl | rfl <;> rfl
        | name a b => rcases h89 with rfl | rfl <;> rfl
        | comp k l => rcases h89 with rfl | rfl <;> rfl
      rw [he]
      clear hx hs k0 hi hn1 he
      generalize x.kind = q at *
      rcases h89 with rfl | rfl
      all_goals
        go_enter Tryz.func73, Tryz.ntmps73
        go_wp2_with fail
        all_goals
          go_ret
          exact ⟨rfl, rfl⟩
  · have h8 : k ≠ 8 := fun q => h89 (.inl q)
    have h9 : k ≠ 9 := fun q => h89 (.inr q)
    rw [headOK_ne h7 h8 h9]
    have g7 : ((k.toNat : Int) == 7) = false := u8_ne h7
    have g8 : ((k.toNat : Int) == 8) = false := u8_ne h8
    have g9 : ((k.toNat : Int) == 9) = false := u8_ne h9
    clear hx hs k0 e1 h7 h89 h8 h9
    go_enter Tryz.func73, Tryz.ntmps73
    go_wp2_with fail
    go_ret
    exact ⟨rfl, rfl⟩
end Go.Proofs.YtaambeficfiacaaGreatDoor
namespace Go.Proofs.YtaambeficfiacaaGreatDoor
open Go.RowKit VM

theorem slen1 (w : World) : Calls Tryz.prog 49 #[.int .i64 1] w fun e w' => e = .returned (.int .i64 9) ∧ w = w' := simpleLength_any 1 w
theorem slen2 (w : World) : Calls Tryz.prog 49 #[.int .i64 2] w fun e w' => e = .returned (.int .i64 2) ∧ w = w' := simpleLength_any 2 w
theorem slen10 (w : World) : Calls Tryz.prog 49 #[.int .i64 10] w fun e w' => e = .returned (.int .i64 3) ∧ w = w' := simpleLength_any 10 w
/-- where the value that is read ends -/
def endD (o : Option (V × List UInt8)) (n : Nat) : Int := match o with
  | some (_, r) => ((n - r.length : Nat) : Int)
  | none => -1
theorem drop_of {s : ByteArray} {p : Nat} {k : UInt8} {r : List UInt8} (h : (bs s).drop p = k :: r) : p < s.size ∧ s.size = p + 1 + r.length ∧ (bs s)[p]? = some k ∧ ∀ i, (bs s)[p + 1 + i]? = r[i]? := by
  have hl := congrArg List.length h
  rw [List.length_drop, bs_size, List.length_cons] at hl
  refine ⟨by omega, by omega, ?_, fun i => ?_⟩
  · rw [← List.head?_drop, h]; rfl
  · have : (bs s)[p + (1 + i)]? = ((bs s).drop p)[1 + i]? := by rw [List.getElem?_drop]
    rw [Nat.add_assoc, this, h, Nat.add_comm 1 i]; rfl
set_option maxRecDepth 100000 in
set_option maxHeartbeats 3200000 in
theorem simpleEnd_any (s : ByteArray) (p : Nat) (k : UInt8) (r : List UInt8) (d : Nat) (hk : simpleB k = true) (h : (bs s).drop p = k :: r) (hb : s.size ≤ 1048576) (w : World) :
    Calls Tryz.prog 62 #[.string s, .int .i64 (p : Int), .int .i64 (k.toNat : Int)] w fun e w' => e = .returned (.int .i64 (endD (dec (d + 1) (k :: r)) s.size)) ∧ w = w' := by
  obtain ⟨h1, h2, h3, h4⟩ := drop_of h
  by_cases k1 : k = 1
  · subst k1
    by_cases hr : 8 ≤ r.length
    · have he : endD (dec (d + 1) (1 :: r)) s.size = ((p + 9 : Nat) : Int) := by
        unfold dec
        rw [if_pos rfl, if_pos hr]
        show ((s.size - (r.drop 8).length : Nat) : Int) = _
        rw [List.length_drop]; congr 1; omega
      rw [he]
      have hle : p + 9 ≤ s.size := by omega
      clear he h h2 h3 h4 hr hk
      go_enter Tryz.func62, Tryz.ntmps62
      go_wp2_with (go_at_call 49; refine (slen1 _).mono ?_; rintro e w' ⟨rfl, rfl⟩)
      all_goals
        go_ret
        exact ⟨rfl, rfl⟩
    · have he : endD (dec (d + 1) (1 :: r)) s.size = -1 := by
        unfold dec
        rw [if_pos rfl, if_neg hr]; rfl
      rw [he]
      have hle : ¬ p + 9 ≤ s.size := by omega
      clear he h h2 h3 h4 hr hk
      go_enter Tryz.func62, Tryz.ntmps62
      go_wp2_with (go_at_call 49; refine (slen1 _).mono ?_; rintro e w' ⟨rfl, rfl⟩)
      all_goals
        go_ret
        exact ⟨rfl, rfl⟩
  by_cases k2 : k = 2
  · subst k2
    cases r with
    | nil =>
      have he : endD (dec (d + 1) [2]) s.size = -1 := by
        unfold dec
        rw [if_neg (by decide), if_pos rfl]; rfl
      rw [he]
      have hle : s.size = p + 1 := by simpa using h2
      clear he h h2 h3 h4 hk
      go_enter Tryz.func62, Tryz.ntmps62
      go_wp2_with (go_at_call 49; refine (slen2 _).mono ?_; rintro e w' ⟨rfl, rfl⟩)
      all_goals
        go_ret
        exact ⟨rfl, rfl⟩
    | cons b r =>
      have hlt : p + 1 < s.size := by simp at h2; omega
      have e1 : s[p + 1]'hlt = b := by
        have := h4 0
        rw [Nat.add_zero, bs_get s (p + 1) hlt] at this
        exact Option.some.inj this
      by_cases hb1 : b.toNat ≤ 1
      · have he : endD (dec (d + 1) (2 :: b :: r)) s.size = ((p + 2 : Nat) : Int) := by
          unfold dec
          rw [if_neg (by decide), if_pos rfl]
          simp only
          rw [if_pos hb1]
          show ((s.size - r.length : Nat) : Int) = _
          simp at h2
          congr 1; omega
        rw [he]
        have g1 : decide ((1 : Int) < (b.toNat : Int)) = false := decide_eq_false (by omega)
        have hle : p + 2 ≤ s.size := by omega
        clear he h h2 h3 h4 hk
        go_enter Tryz.func62, Tryz.ntmps62
        go_wp2_with (go_at_call 49; refine (slen2 _).mono ?_; rintro e w' ⟨rfl, rfl⟩)
        all_goals
          go_ret
          exact ⟨rfl, rfl⟩
      · have he : endD (dec (d + 1) (2 :: b :: r)) s.size = -1 := by
          unfold dec
          rw [if_neg (by decide), if_pos rfl]
          simp only
          rw [if_neg hb1]; rfl
        rw [he]
        have g1 : decide ((1 : Int) < (b.toNat : Int)) = true := decide_eq_true (by omega)
        have hle : p + 2 ≤ s.size := by omega
        clear he h h2 h3 h4 hk
        go_enter Tryz.func62, Tryz.ntmps62
        go_wp2_with (go_at_call 49; refine (slen2 _).mono ?_; rintro e w' ⟨rfl, rfl⟩)
        all_goals
          go_ret
          exact ⟨rfl, rfl⟩
  have k3 : k = 10 := by
    unfold simpleB at hk
    simpa [k1, k2] using hk
  subst k3
  by_cases hr : 2 ≤ r.length
  · have he : endD (dec (d + 1) (10 :: r)) s.size = ((p + 3 : Nat) : Int) := by
      match r, hr with
      | a :: b :: r, _ =>
        unfold dec
        rw [if_neg (by decide), if_neg (by decide), if_pos rfl]
        show ((s.size - r.length : Nat) : Int) = _
        simp at h2
        congr 1; omega
    rw [he]
    have hle : p + 3 ≤ s.size := by omega
    clear he h h2 h3 h4 hr hk k1 k2
    go_enter Tryz.func62, Tryz.ntmps62
    go_wp2_with (go_at_call 49; refine (slen10 _).mono ?_; rintro e w' ⟨rfl, rfl⟩)
    all_goals
      go_ret
      exact ⟨rfl, rfl⟩
  · have he : endD (dec (d + 1) (10 :: r)) s.size = -1 := by
      match r, hr with
      | [], _ => unfold dec; rw [if_neg (by decide), if_neg (by decide), if_pos rfl]; rfl
      | [a], _ => unfold dec; rw [if_neg (by decide), if_neg (by decide), if_pos rfl]; rfl
      | a :: b :: r, hr => exact absurd (by simp) hr
    rw [he]
    have hle : ¬ p + 3 ≤ s.size := by omega
    clear he h h2 h3 h4 hr hk k1 k2
    go_enter Tryz.func62, Tryz.ntmps62
    go_wp2_with (go_at_call 49; refine (slen10 _).mono ?_; rintro e w' ⟨rfl, rfl⟩)
    all_goals
      go_ret
      exact ⟨rfl, rfl⟩

end Go.Proofs.YtaambeficfiacaaGreatDoor
