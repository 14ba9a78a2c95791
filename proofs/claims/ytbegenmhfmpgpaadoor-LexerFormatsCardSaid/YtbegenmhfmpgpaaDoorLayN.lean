/- What the offside rule's state keeps from token to token: a bound on its size, the program's block. No program in it. -/
import Derived.Test.YtbegenmhfmpgpaaDoorLayM
namespace Go.Proofs.YtbegenmhfmpgpaaDoor.M
open Go

structure LInv (k : Nat) (s : LSt) : Prop where
  base : s.cols.getLast? = some 1
  size : s.cols.length ≤ 64
  out : s.out.length + s.cols.length ≤ 4 * k + 2
  last : s.last = (0, 0) ∨ 1 ≤ s.last.1

theorem start_inv : LInv 0 startL := ⟨rfl, by decide, by decide, .inl rfl⟩
theorem begL_len (out : List Tok) (cols : List Int) (t : Tok) : (begL out cols t).2.1.length + (begL out cols t).2.2.length ≤ out.length + cols.length + 2 ∧ out.length ≤ (begL out cols t).2.1.length := by
  unfold begL
  split
  · simp; omega
  · split
    · simp
    · split
      · simp
      · simp; omega
theorem getLast_cons {x : Int} {cols : List Int} (h : cols.getLast? = some 1) : (x :: cols).getLast? = some 1 := by
  cases cols with
  | nil => simp at h
  | cons y r => simpa using h
theorem begL_ok {out : List Tok} {cols : List Int} {t : Tok} (hl : cols.getLast? = some 1) (hs : cols.length ≤ 64) :
    (begL out cols t).2.2.getLast? = some 1 ∧ (begL out cols t).2.2.length ≤ 64 := by
  unfold begL
  split
  · exact ⟨hl, hs⟩
  · split
    · exact ⟨hl, hs⟩
    · split
      · exact ⟨hl, hs⟩
      · rename_i h3
        exact ⟨getLast_cons hl, by simp; omega⟩
theorem procL_ok {out : List Tok} {cols : List Int} {t : Tok} (st : Bool) (hl : cols.getLast? = some 1) (hs : cols.length ≤ 64) (hb : 1 ≤ t.2.2) :
    (procL out cols t st).2.getLast? = some 1 ∧ (procL out cols t st).2.length ≤ 64 ∧ (procL out cols t st).1.length + (procL out cols t st).2.length ≤ out.length + cols.length + 1 := by
  have hp : (popS st out cols t).2.getLast? = some 1 ∧ (popS st out cols t).2.length ≤ cols.length ∧ (popS st out cols t).1.length + (popS st out cols t).2.length = out.length + cols.length := by
    unfold popS
    split
    · have := popC_ne t.2.2 t.2 hb cols out hl
      exact ⟨this.1, this.2.1, this.2.2.1⟩
    · exact ⟨hl, Nat.le_refl _, rfl⟩
  unfold procL
  generalize popS st out cols t = r at *
  obtain ⟨o, c⟩ := r
  simp only at hp
  obtain ⟨h1, h2, h3⟩ := hp
  unfold procE
  split
  · split
    · rename_i hq
      cases c with
      | nil => simp at h1
      | cons x r =>
        cases r with
        | nil => simp at hq; omega
        | cons y q => simp only [List.tail_cons]; simp at h1 h2 h3 ⊢; exact ⟨h1, by omega, by omega⟩
    · refine ⟨h1, ?_, ?_⟩ <;> simp only <;> omega
  · split
    · refine ⟨h1, ?_, ?_⟩
      · simp only; omega
      · simp; omega
    · refine ⟨h1, ?_, ?_⟩ <;> simp only <;> omega
theorem fin_inv {k : Nat} {out : List Tok} {cols : List Int} (item line : Int × Int) (t : Tok) (h1 : cols.getLast? = some 1) (h2 : cols.length ≤ 64) (h3 : out.length + cols.length ≤ 4 * k + 5) (h4 : 1 ≤ t.2.1) :
    LInv (k + 1) (finL out cols item line t) :=
  ⟨h1, h2, by show (out ++ [t]).length + cols.length ≤ _; simp; omega, .inr h4⟩
theorem isAft_pos {p q : Int × Int} (h : isAft p q = true) : 1 ≤ p.1 ∧ 1 ≤ p.2 := by
  unfold isAft at h
  simp at h
  exact ⟨h.1, h.2.1⟩
theorem val_aft {t : Tok} {q : Int × Int} (h : ¬ (valT t.1 && isAft t.2 q) = false) : valT t.1 = true ∧ isAft t.2 q = true := by
  cases h1 : valT t.1
  · rw [h1] at h; exact absurd rfl h
  · cases h2 : isAft t.2 q
    · rw [h1, h2] at h; exact absurd rfl h
    · exact ⟨rfl, rfl⟩
theorem add_inv {k : Nat} {s : LSt} (t : Tok) (h : LInv k s) (h0 : (addL s t).1 = 0) : LInv (k + 1) (addL s t).2 := by
  obtain ⟨b1, b2, b3, b4⟩ := h
  unfold addL at h0 ⊢
  by_cases h1 : (valT t.1 && isAft t.2 s.last) = false
  · rw [if_pos h1] at h0; simp at h0
  obtain ⟨_, ha⟩ := val_aft h1
  obtain ⟨p1, p2⟩ := isAft_pos ha
  rw [if_neg h1] at h0 ⊢
  by_cases h2 : s.last = (0, 0)
  · rw [if_pos h2] at h0 ⊢
    by_cases h3 : t.2.2 ≠ 1
    · rw [if_pos h3] at h0; simp at h0
    · rw [if_neg h3]; exact fin_inv _ _ _ b1 b2 (by omega) p1
  rw [if_neg h2] at h0 ⊢
  have hl := (begL_len s.out s.cols t).1
  by_cases h3 : s.item ≠ (0, 0)
  · rw [if_pos h3] at h0 ⊢
    by_cases h4 : (begL s.out s.cols t).1 ≠ 0
    · rw [if_pos h4] at h0; exact absurd h0 h4
    · rw [if_neg h4]
      obtain ⟨q1, q2⟩ := begL_ok (out := s.out) (t := t) b1 b2
      exact fin_inv _ _ _ q1 q2 (by omega) p1
  rw [if_neg h3] at h0 ⊢
  by_cases h5 : s.last.1 < t.2.1 ∧ s.line ≠ (0, 0)
  · rw [if_pos h5] at h0 ⊢
    by_cases h4 : (begL s.out s.cols t).1 ≠ 0
    · rw [if_pos h4] at h0; exact absurd h0 h4
    · rw [if_neg h4]
      obtain ⟨q1, q2⟩ := begL_ok (out := s.out) (t := t) b1 b2
      exact fin_inv _ _ _ q1 q2 (by omega) p1
  rw [if_neg h5]
  obtain ⟨q1, q2, q3⟩ := procL_ok (out := s.out) (decide (s.last.1 < t.2.1)) b1 b2 p2
  exact fin_inv _ _ _ q1 q2 (by omega) p1

end Go.Proofs.YtbegenmhfmpgpaaDoor.M
