/- simpleEnd. Condition: at most 1048576 bytes. -/
import Derived.Test.YtmaboodfgmbdjaaGreatDoorVaE
namespace Go.Proofs.YtmaboodfgmbdjaaGreatDoor
open Go.RowKit VM

theorem slen1 (w : World) : Calls Tryz.prog 82 #[.int .i64 1] w fun e w' => e = .returned (.int .i64 9) ∧ w = w' := simpleLength_any 1 w
theorem slen2 (w : World) : Calls Tryz.prog 82 #[.int .i64 2] w fun e w' => e = .returned (.int .i64 2) ∧ w = w' := simpleLength_any 2 w
theorem slen10 (w : World) : Calls Tryz.prog 82 #[.int .i64 10] w fun e w' => e = .returned (.int .i64 3) ∧ w = w' := simpleLength_any 10 w
/-- where the value that is read ends -/
def endD (o : Option (V × List UInt8)) (n : Nat) : Int := match o with
  | some (_, r) => ((n - r.length : Nat) : Int)
  | none => -1
theorem drop_of {s : ByteArray} {p : Nat} {k : UInt8} {r : List UInt8} (h : (bs s).drop p = k :: r) : p < s.size ∧ s.size = p + 1 + r.length ∧ (bs s)[p]? = some k ∧ ∀ i, (bs s)[p + 1 + i]? = r[i]? := by
  have hl := congrArg List.length h
  rw [List.length_drop, bs_size, List.length_cons] at hl
  refine ⟨by omega, by omega, ?_, fun i => ?_⟩
  · rw [← List.head?_drop, h]; rfl
  · have : (bs s)[p + (1 + i)]? = ((bs s).drop p)[1 + i]? := by rw [List.getElem?_drop]
    rw [Nat.add_assoc, this, h, Nat.add_comm 1 i]; rfl
set_option maxRecDepth 100000 in
set_option maxHeartbeats 3200000 in
theorem simpleEnd_any (s : ByteArray) (p : Nat) (k : UInt8) (r : List UInt8) (d : Nat) (hk : simpleB k = true) (h : (bs s).drop p = k :: r) (hb : s.size ≤ 1048576) (w : World) :
    Calls Tryz.prog 78 #[.string s, .int .i64 (p : Int), .int .i64 (k.toNat : Int)] w fun e w' => e = .returned (.int .i64 (endD (dec (d + 1) (k :: r)) s.size)) ∧ w = w' := by
  obtain ⟨h1, h2, h3, h4⟩ := drop_of h
  by_cases k1 : k = 1
  · subst k1
    by_cases hr : 8 ≤ r.length
    · have he : endD (dec (d + 1) (1 :: r)) s.size = ((p + 9 : Nat) : Int) := by
        unfold dec
        rw [if_pos rfl, if_pos hr]
        show ((s.size - (r.drop 8).length : Nat) : Int) = _
        rw [List.length_drop]; congr 1; omega
      rw [he]
      have hle : p + 9 ≤ s.size := by omega
      clear he h h2 h3 h4 hr hk
      go_enter Tryz.func78, Tryz.ntmps78
      go_wp2_with (go_at_call 82; refine (slen1 _).mono ?_; rintro e w' ⟨rfl, rfl⟩)
      all_goals
        go_ret
        exact ⟨rfl, rfl⟩
    · have he : endD (dec (d + 1) (1 :: r)) s.size = -1 := by
        unfold dec
        rw [if_pos rfl, if_neg hr]; rfl
      rw [he]
      have hle : ¬ p + 9 ≤ s.size := by omega
      clear he h h2 h3 h4 hr hk
      go_enter Tryz.func78, Tryz.ntmps78
      go_wp2_with (go_at_call 82; refine (slen1 _).mono ?_; rintro e w' ⟨rfl, rfl⟩)
      all_goals
        go_ret
        exact ⟨rfl, rfl⟩
  by_cases k2 : k = 2
  · subst k2
    cases r with
    | nil =>
      have he : endD (dec (d + 1) [2]) s.size = -1 := by
        unfold dec
        rw [if_neg (by decide), if_pos rfl]; rfl
      rw [he]
      have hle : s.size = p + 1 := by simpa using h2
      clear he h h2 h3 h4 hk
      go_enter Tryz.func78, Tryz.ntmps78
      go_wp2_with (go_at_call 82; refine (slen2 _).mono ?_; rintro e w' ⟨rfl, rfl⟩)
      all_goals
        go_ret
        exact ⟨rfl, rfl⟩
    | cons b r =>
      have hlt : p + 1 < s.size := by simp at h2; omega
      have e1 : s[p + 1]'hlt = b := by
        have := h4 0
        rw [Nat.add_zero, bs_get s (p + 1) hlt] at this
        exact Option.some.inj this
      by_cases hb1 : b.toNat ≤ 1
      · have he : endD (dec (d + 1) (2 :: b :: r)) s.size = ((p + 2 : Nat) : Int) := by
          unfold dec
          rw [if_neg (by decide), if_pos rfl]
          simp only
          rw [if_pos hb1]
          show ((s.size - r.length : Nat) : Int) = _
          simp at h2
          congr 1; omega
        rw [he]
        have g1 : decide ((1 : Int) < (b.toNat : Int)) = false := decide_eq_false (by omega)
        have hle : p + 2 ≤ s.size := by omega
        clear he h h2 h3 h4 hk
        go_enter Tryz.func78, Tryz.ntmps78
        go_wp2_with (go_at_call 82; refine (slen2 _).mono ?_; rintro e w' ⟨rfl, rfl⟩)
        all_goals
          go_ret
          exact ⟨rfl, rfl⟩
      · have he : endD (dec (d + 1) (2 :: b :: r)) s.size = -1 := by
          unfold dec
          rw [if_neg (by decide), if_pos rfl]
          simp only
          rw [if_neg hb1]; rfl
        rw [he]
        have g1 : decide ((1 : Int) < (b.toNat : Int)) = true := decide_eq_true (by omega)
        have hle : p + 2 ≤ s.size := by omega
        clear he h h2 h3 h4 hk
        go_enter Tryz.func78, Tryz.ntmps78
        go_wp2_with (go_at_call 82; refine (slen2 _).mono ?_; rintro e w' ⟨rfl, rfl⟩)
        all_goals
          go_ret
          exact ⟨rfl, rfl⟩
  have k3 : k = 10 := by
    unfold simpleB at hk
    simpa [k1, k2] using hk
  subst k3
  by_cases hr : 2 ≤ r.length
  · have he : endD (dec (d + 1) (10 :: r)) s.size = ((p + 3 : Nat) : Int) := by
      match r, hr with
      | a :: b :: r, _ =>
        unfold dec
        rw [if_neg (by decide), if_neg (by decide), if_pos rfl]
        show ((s.size - r.length : Nat) : Int) = _
        simp at h2
        congr 1; omega
    rw [he]
    have hle : p + 3 ≤ s.size := by omega
    clear he h h2 h3 h4 hr hk k1 k2
    go_enter Tryz.func78, Tryz.ntmps78
    go_wp2_with (go_at_call 82; refine (slen10 _).mono ?_; rintro e w' ⟨rfl, rfl⟩)
    all_goals
      go_ret
      exact ⟨rfl, rfl⟩
  · have he : endD (dec (d + 1) (10 :: r)) s.size = -1 := by
      match r, hr with
      | [], _ => unfold dec; rw [if_neg (by decide), if_neg (by decide), if_pos rfl]; rfl
      | [a], _ => unfold dec; rw [if_neg (by decide), if_neg (by decide), if_pos rfl]; rfl
      | a :: b :: r, hr => exact absurd (by simp) hr
    rw [he]
    have hle : ¬ p + 3 ≤ s.size := by omega
    clear he h h2 h3 h4 hr hk k1 k2
    go_enter Tryz.func78, Tryz.ntmps78
    go_wp2_with (go_at_call 82; refine (slen10 _).mono ?_; rintro e w' ⟨rfl, rfl⟩)
    all_goals
      go_ret
      exact ⟨rfl, rfl⟩

end Go.Proofs.YtmaboodfgmbdjaaGreatDoor
