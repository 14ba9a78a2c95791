/- Plain facts on decimal numerals: what ParseInt says of a word of digits. No program in it. -/
import Derived.Test.YtbegenmhfmpgpaaDoorLexM
import Derived.Lib.ParseIntB
namespace Go.Proofs.YtbegenmhfmpgpaaDoor.M
open Go

def intVal (l : Bs) : Nat := l.foldl (fun a c => 10 * a + (c.toNat - 48)) 0
def allDigits (l : Bs) : Bool := l.all digitB

theorem foldl_ge (l : Bs) (a : Nat) : a ≤ l.foldl (fun a c => 10 * a + (c.toNat - 48)) a := by
  induction l generalizing a with
  | nil => simp
  | cons c r ih => simp only [List.foldl_cons]; exact Nat.le_trans (by omega) (ih _)

theorem parseM (l : Bs) (a : Nat) (h : allDigits l = true) (ha : a ≤ 18446744073709551615) :
    Lib.parseUintM 18446744073709551615 a l = if l.foldl (fun a c => 10 * a + (c.toNat - 48)) a ≤ 18446744073709551615 then .ok (l.foldl (fun a c => 10 * a + (c.toNat - 48)) a) else .range := by
  induction l generalizing a with
  | nil => simp [Lib.parseUintM, ha]
  | cons c r ih =>
    simp only [allDigits, List.all_cons, Bool.and_eq_true] at h
    obtain ⟨hc, hr⟩ := h
    have hc' : 48 ≤ c.toNat ∧ c.toNat ≤ 57 := by simpa [digitB] using hc
    have hg := foldl_ge r (10 * a + (c.toNat - 48))
    rw [Lib.parseUintM, if_pos hc', List.foldl_cons]
    by_cases h1 : 1844674407370955162 ≤ a
    · rw [if_pos h1, if_neg (by omega)]
    · rw [if_neg h1]
      have e : a * 10 + (c.toNat - 48) = 10 * a + (c.toNat - 48) := by omega
      rw [e]
      by_cases h2 : 18446744073709551615 < 10 * a + (c.toNat - 48)
      · rw [if_pos h2, if_neg (by omega)]
      · rw [if_neg h2, ih _ hr (by omega)]

theorem parse_digits (l : Bs) (hne : l ≠ []) (h : allDigits l = true) : Lib.parseIntB 64 l = if intVal l < 9223372036854775808 then .ok (intVal l : Int) else .range := by
  cases l with
  | nil => exact absurd rfl hne
  | cons c r =>
    have hc : digitB c = true := by simp only [allDigits, List.all_cons, Bool.and_eq_true] at h; exact h.1
    have hc' : 48 ≤ c.toNat ∧ c.toNat ≤ 57 := by simpa [digitB] using hc
    have h43 : ¬ (c.toNat = 43 ∨ c.toNat = 45) := by omega
    have h45 : ¬ c.toNat = 45 := by omega
    have hm := parseM (c :: r) 0 h (by omega)
    unfold Lib.parseIntB
    simp only [if_neg h43]
    have e : Lib.parseUintB 64 (c :: r) = Lib.parseUintM 18446744073709551615 0 (c :: r) := by
      unfold Lib.parseUintB; rw [if_neg (by simp)]
    rw [e, hm]
    unfold intVal
    generalize List.foldl (fun a c => 10 * a + (c.toNat - 48)) 0 (c :: r) = V
    by_cases h1 : V ≤ 18446744073709551615
    · rw [if_pos h1]
      by_cases h2 : V < 9223372036854775808
      · have h3 : ¬ 2 ^ (64 - 1) ≤ V := by omega
        simp [h45, h2, h3]
      · have h3 : 2 ^ (64 - 1) ≤ V := by omega
        simp [h45, h2, h3]
    · rw [if_neg h1, if_neg (by omega)]

/-- what an item comes to: its kind, its number, its text, its error -/
structure TR where
  kind : Int
  num : Int
  str : Bs
  err : Int

def intR (l : Bs) : TR :=
  if l.head? = some 48 ∧ l ≠ [48] then ⟨0, 0, [], 2⟩
  else if allDigits l = false then ⟨0, 0, [], 2⟩
  else if intVal l < 9223372036854775808 then ⟨2, (intVal l : Int), [], 0⟩ else ⟨0, 0, [], 9⟩
def wordR (l : Bs) : TR :=
  if (l.head?.map digitB) = some true then intR l
  else if kwB l then ⟨3, 0, l, 0⟩
  else if l.length ≤ 64 then ⟨1, 0, l, 0⟩ else ⟨0, 0, [], 2⟩
def itemR (l : Bs) : TR :=
  if wordN l ≠ 0 then wordR (l.take (wordN l))
  else if symB l ≠ [] then ⟨4, 0, symB l, 0⟩ else ⟨0, 0, [], 2⟩
def itemN (l : Bs) : Nat := if wordN l ≠ 0 then wordN l else (symB l).length

end Go.Proofs.YtbegenmhfmpgpaaDoor.M
