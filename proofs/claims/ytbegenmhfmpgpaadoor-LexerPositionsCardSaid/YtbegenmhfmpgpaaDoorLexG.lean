/- The plain model of what lies between items: white space, comments, positions. No program in it. -/
import Derived.Test.YtbegenmhfmpgpaaDoorLexM
import Derived.Lib.Bytealg
namespace Go.Proofs.YtbegenmhfmpgpaaDoor.M
open Go

/-- the bytes before the first line feed -/
def lineN (l : Bs) : Nat := (l.takeWhile (· != 10)).length
/-- a comment's size: fuel, depth, the bytes left, how many have been passed -/
def comF : Nat → Int → Bs → Nat → Option Nat
  | 0, _, _, _ => none
  | f + 1, d, l, n =>
    if l = [] then none
    else if [123, 45].isPrefixOf l then (if d + 1 = 0 then some (n + 2) else comF f (d + 1) (l.drop 2) (n + 2))
    else if [45, 125].isPrefixOf l then (if d - 1 = 0 then some (n + 2) else comF f (d - 1) (l.drop 2) (n + 2))
    else (if d = 0 then some (n + 1) else comF f d (l.drop 1) (n + 1))
def comN (l : Bs) : Option Nat := comF (l.length + 1) 0 l 0
def comR (l : Bs) : Nat × Bool := match comN l with
  | some n => (n, true)
  | none => (0, false)
def gapR (l : Bs) : Nat × Bool := match l with
  | [] => (0, true)
  | c :: _ =>
    if c.toNat = 32 ∨ c.toNat = 9 ∨ c.toNat = 13 ∨ c.toNat = 10 then (1, true)
    else if c.toNat = 45 ∧ [45, 45].isPrefixOf l then (lineN l, true)
    else if c.toNat = 123 ∧ [123, 45].isPrefixOf l then comR l
    else (0, true)
def stepP (p : Int × Int) (c : UInt8) : Int × Int := if c.toNat = 10 then (p.1 + 1, 1) else (p.1, p.2 + 1)
def posA (p : Int × Int) (l : Bs) : Int × Int := l.foldl stepP p
/-- white space and comments passed: fuel, the bytes left, how many have been passed -/
def skF : Nat → Bs → Nat → Nat × Bool
  | 0, _, n => (n, true)
  | f + 1, l, n => if (gapR l).2 = false ∨ (gapR l).1 = 0 then (n, (gapR l).2) else skF f (l.drop (gapR l).1) (n + (gapR l).1)

theorem index_line (l : Bs) : (Lib.indexByte l 10 = -1 ∧ lineN l = l.length) ∨ (0 ≤ Lib.indexByte l 10 ∧ Lib.indexByte l 10 = lineN l) := by
  induction l with
  | nil => left; simp [Lib.indexByte, lineN]
  | cons c r ih =>
    by_cases hc : c = 10
    · right
      subst hc
      simp [Lib.indexByte, lineN]
    · have h1 : (c == 10) = false := beq_eq_false_iff_ne.2 hc
      have h2 : lineN (c :: r) = lineN r + 1 := by
        unfold lineN; rw [List.takeWhile_cons, if_pos (by simp [hc])]; rfl
      have h3 : Lib.indexByte (c :: r) 10 = if Lib.indexByte r 10 == -1 then -1 else Lib.indexByte r 10 + 1 := by
        rw [Lib.indexByte, h1]; rfl
      rw [h2, h3]
      rcases ih with ⟨a, b⟩ | ⟨a, b⟩
      · left; rw [a]; exact ⟨rfl, by simp [b]⟩
      · right
        have : (Lib.indexByte r 10 == -1) = false := beq_eq_false_iff_ne.2 (by omega)
        rw [this]
        simp only [Bool.false_eq_true, if_false]
        exact ⟨by omega, by omega⟩

theorem lineN_le (l : Bs) : lineN l ≤ l.length := (List.takeWhile_sublist _).length_le

theorem comF_le (f : Nat) : ∀ (d : Int) (l : Bs) (n m : Nat), comF f d l n = some m → n ≤ m ∧ m ≤ n + l.length := by
  induction f with
  | zero => intro d l n m h; simp [comF] at h
  | succ f ih =>
    intro d l n m h
    unfold comF at h
    have p2 : ∀ a b : UInt8, [a, b].isPrefixOf l = true → 2 ≤ l.length := by
      intro a b hp
      rw [List.isPrefixOf_iff_prefix] at hp
      have := hp.length_le
      simpa using this
    by_cases h0 : l = []
    · rw [if_pos h0] at h; cases h
    rw [if_neg h0] at h
    have hl : 1 ≤ l.length := by cases l with | nil => exact absurd rfl h0 | cons => simp
    by_cases h1 : [123, 45].isPrefixOf l = true
    · rw [if_pos h1] at h
      have := p2 _ _ h1
      by_cases h2 : d + 1 = 0
      · rw [if_pos h2] at h; injection h with h; omega
      · rw [if_neg h2] at h; have := ih _ _ _ _ h; rw [List.length_drop] at this; omega
    rw [if_neg h1] at h
    by_cases h3 : [45, 125].isPrefixOf l = true
    · rw [if_pos h3] at h
      have := p2 _ _ h3
      by_cases h2 : d - 1 = 0
      · rw [if_pos h2] at h; injection h with h; omega
      · rw [if_neg h2] at h; have := ih _ _ _ _ h; rw [List.length_drop] at this; omega
    rw [if_neg h3] at h
    by_cases h2 : d = 0
    · rw [if_pos h2] at h; injection h with h; omega
    · rw [if_neg h2] at h; have := ih _ _ _ _ h; rw [List.length_drop] at this; omega

theorem comR_le (l : Bs) : (comR l).1 ≤ l.length := by
  unfold comR
  split
  · rename_i n h; have := comF_le _ _ _ _ _ h; simp only; omega
  · simp

theorem gapR_le (l : Bs) : (gapR l).1 ≤ l.length := by
  have h1 := comR_le l
  have h2 := lineN_le l
  unfold gapR
  split
  · simp
  · split
    · simp
    · split
      · exact h2
      · split
        · exact h1
        · simp

theorem posA_append (p : Int × Int) (a b : Bs) : posA p (a ++ b) = posA (posA p a) b := List.foldl_append
theorem posA_bound (l : Bs) : ∀ (p : Int × Int), 0 ≤ p.1 → 0 ≤ p.2 → 0 ≤ (posA p l).1 ∧ (posA p l).1 ≤ p.1 + l.length ∧ 0 ≤ (posA p l).2 ∧ (posA p l).2 ≤ p.2 + 1 + l.length := by
  induction l with
  | nil => intro p h1 h2; simp [posA]; omega
  | cons c r ih =>
    intro p h1 h2
    have e : posA p (c :: r) = posA (stepP p c) r := rfl
    rw [e]
    have hs : 0 ≤ (stepP p c).1 ∧ (stepP p c).1 ≤ p.1 + 1 ∧ 0 ≤ (stepP p c).2 ∧ (stepP p c).2 ≤ p.2 + 1 := by
      unfold stepP; split <;> simp <;> omega
    have := ih (stepP p c) hs.1 hs.2.2.1
    simp only [List.length_cons]
    omega

end Go.Proofs.YtbegenmhfmpgpaaDoor.M
