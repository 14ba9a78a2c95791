/- The plain model of what lies between items: white space, comments, positions. No program in it. Laws on what is left of a string, on positions, and on worlds in which one block was written. The plain model of Scan: the tokens of a text, or its first error and where it is. No program in it. -/
import Derived.Test.YtkjjagmpnnnimaaGreatDoorQ1
import Derived.Lib.Bytealg
import Derived.Test.YtkjjagmpnnnimaaGreatDoorQ2
namespace Go.Proofs.YtkjjagmpnnnimaaGreatDoor.M
open Go

/-- the bytes before the first line feed -/
def lineN (l : Bs) : Nat := (l.takeWhile (· != 10)).length
/-- a comment's size: fuel, depth, the bytes left, how many have been passed -/
def comF : Nat → Int → Bs → Nat → Option Nat
  | 0, _, _, _ => none
  | f + 1, d, l, n =>
    if l = [] then none
    else if [123, 45].isPrefixOf l then (if d + 1 = 0 then some (n + 2) else comF f (d + 1) (l.drop 2) (n + 2))
    else if [45, 125].isPrefixOf l then (if d - 1 = 0 then some (n + 2) else comF f (d - 1) (l.drop 2) (n + 2))
    else (if d = 0 then some (n + 1) else comF f d (l.drop 1) (n + 1))
def comN (l : Bs) : Option Nat := comF (l.length + 1) 0 l 0
def comR (l : Bs) : Nat × Bool := match comN l with
  | some n => (n, true)
  | none => (0, false)
def gapR (l : Bs) : Nat × Bool := match l with
  | [] => (0, true)
  | c :: _ =>
    if c.toNat = 32 ∨ c.toNat = 9 ∨ c.toNat = 13 ∨ c.toNat = 10 then (1, true)
    else if c.toNat = 45 ∧ [45, 45].isPrefixOf l then (lineN l, true)
    else if c.toNat = 123 ∧ [123, 45].isPrefixOf l then comR l
    else (0, true)
def stepP (p : Int × Int) (c : UInt8) : Int × Int := if c.toNat = 10 then (p.1 + 1, 1) else (p.1, p.2 + 1)
def posA (p : Int × Int) (l : Bs) : Int × Int := l.foldl stepP p
/-- white space and comments passed: fuel, the bytes left, how many have been passed -/
def skF : Nat → Bs → Nat → Nat × Bool
  | 0, _, n => (n, true)
  | f + 1, l, n => if (gapR l).2 = false ∨ (gapR l).1 = 0 then (n, (gapR l).2) else skF f (l.drop (gapR l).1) (n + (gapR l).1)

theorem index_line (l : Bs) : (Lib.indexByte l 10 = -1 ∧ lineN l = l.length) ∨ (0 ≤ Lib.indexByte l 10 ∧ Lib.indexByte l 10 = lineN l) := by
  induction l with
  | nil => left; simp [Lib.indexByte, lineN]
  | cons c r ih =>
    by_cases hc : c = 10
    · right
      subst hc
      simp [Lib.indexByte, lineN]
    · have h1 : (c == 10) = false := beq_eq_false_iff_ne.2 hc
      have h2 : lineN (c :: r) = lineN r + 1 := by
        unfold lineN; rw [List.takeWhile_cons, if_pos (by simp [hc])]; rfl
      have h3 : Lib.indexByte (c :: r) 10 = if Lib.indexByte r 10 == -1 then -1 else Lib.indexByte r 10 + 1 := by
        rw [Lib.indexByte, h1]; rfl
      rw [h2, h3]
      rcases ih with ⟨a, b⟩ | ⟨a, b⟩
      · left; rw [a]; exact ⟨rfl, by simp [b]⟩
      · right
        have : (Lib.indexByte r 10 == -1) = false := beq_eq_false_iff_ne.2 (by omega)
        rw [this]
        simp only [Bool.false_eq_true, if_false]
        exact ⟨by omega, by omega⟩

theorem lineN_le (l : Bs) : lineN l ≤ l.length := (List.takeWhile_sublist _).length_le

theorem comF_le (f : Nat) : ∀ (d : Int) (l : Bs) (n m : Nat), comF f d l n = some m → n ≤ m ∧ m ≤ n + l.length := by
  induction f with
  | zero => intro d l n m h; simp [comF] at h
  | succ f ih =>
    intro d l n m h
    unfold comF at h
    have p2 : ∀ a b : UInt8, [a, b].isPrefixOf l = true → 2 ≤ l.length := by
      intro a b hp
      rw [List.isPrefixOf_iff_prefix] at hp
      have := hp.length_le
      simpa using this
    by_cases h0 : l = []
    · rw [if_pos h0] at h; cases h
    rw [if_neg h0] at h
    have hl : 1 ≤ l.length := by cases l with | nil => exact absurd rfl h0 | cons => simp
    by_cases h1 : [123, 45].isPrefixOf l = true
    · rw [if_pos h1] at h
      have := p2 _ _ h1
      by_cases h2 : d + 1 = 0
      · rw [if_pos h2] at h; injection h with h; omega
      · rw [if_neg h2] at h; have := ih _ _ _ _ h; rw [List.length_drop] at this; omega
    rw [if_neg h1] at h
    by_cases h3 : [45, 125].isPrefixOf l = true
    · rw [if_pos h3] at h
      have := p2 _ _ h3
      by_cases h2 : d - 1 = 0
      · rw [if_pos h2] at h; injection h with h; omega
      · rw [if_neg h2] at h; have := ih _ _ _ _ h; rw [List.length_drop] at this; omega
    rw [if_neg h3] at h
    by_cases h2 : d = 0
    · rw [if_pos h2] at h; injection h with h; omega
    · rw [if_neg h2] at h; have := ih _ _ _ _ h; rw [List.length_drop] at this; omega

theorem comR_le (l : Bs) : (comR l).1 ≤ l.length := by
  unfold comR
  split
  · rename_i n h; have := comF_le _ _ _ _ _ h; simp only; omega
  · simp

theorem gapR_le (l : Bs) : (gapR l).1 ≤ l.length := by
  have h1 := comR_le l
  have h2 := lineN_le l
  unfold gapR
  split
  · simp
  · split
    · simp
    · split
      · exact h2
      · split
        · exact h1
        · simp

theorem posA_append (p : Int × Int) (a b : Bs) : posA p (a ++ b) = posA (posA p a) b := List.foldl_append
theorem posA_bound (l : Bs) : ∀ (p : Int × Int), 0 ≤ p.1 → 0 ≤ p.2 → 0 ≤ (posA p l).1 ∧ (posA p l).1 ≤ p.1 + l.length ∧ 0 ≤ (posA p l).2 ∧ (posA p l).2 ≤ p.2 + 1 + l.length := by
  induction l with
  | nil => intro p h1 h2; simp [posA]; omega
  | cons c r ih =>
    intro p h1 h2
    have e : posA p (c :: r) = posA (stepP p c) r := rfl
    rw [e]
    have hs : 0 ≤ (stepP p c).1 ∧ (stepP p c).1 ≤ p.1 + 1 ∧ 0 ≤ (stepP p c).2 ∧ (stepP p c).2 ≤ p.2 + 1 := by
      unfold stepP; split <;> simp <;> omega
    have := ih (stepP p c) hs.1 hs.2.2.1
    simp only [List.length_cons]
    omega

end Go.Proofs.YtkjjagmpnnnimaaGreatDoor.M

namespace Go.Proofs.YtkjjagmpnnnimaaGreatDoor
open Go.RowKit M

theorem head_rest (s : ByteArray) (hp : 0 < s.size) : s.data.toList = s[0] :: rest s 1 := by rw [← rest_cons s 0 hp]; rfl
theorem rest_drop (s : ByteArray) (k n : Nat) : (rest s k).drop n = rest s (k + n) := by unfold rest; rw [List.drop_drop]
theorem ret_int {k : IntKind} {a b : Int} (h : a = b) : Ending.returned (.int k a) = .returned (.int k b) := by rw [h]

theorem comF_step (f : Nat) (d : Int) (l : Bs) (n : Nat) : comF (f + 1) d l n = if l = [] then none
    else if [123, 45].isPrefixOf l then (if d + 1 = 0 then some (n + 2) else comF f (d + 1) (l.drop 2) (n + 2))
    else if [45, 125].isPrefixOf l then (if d - 1 = 0 then some (n + 2) else comF f (d - 1) (l.drop 2) (n + 2))
    else (if d = 0 then some (n + 1) else comF f d (l.drop 1) (n + 1)) := rfl

theorem prefix2_le (s : ByteArray) (k : Nat) (a b : UInt8) (h : [a, b].isPrefixOf (rest s k) = true) : k + 2 ≤ s.size := by
  rw [List.isPrefixOf_iff_prefix] at h
  have := h.length_le
  rw [rest_length] at this
  simp at this
  omega

theorem cast_to (c : UInt8) (n : Nat) (h : c.toNat = n) : (c.toNat : Int) = n := by rw [h]

theorem only_set {a w : World} {g : Nat} (h : a.grownBy w (some g)) (o : Nat) (u : Value) : a.grownBy (w.setCell ⟨g, o, none⟩ u) (some g) :=
  ⟨h.os, h.tape, h.output, by simpa [World.setCell] using h.size, fun i hi hne => (Below.heap_setCell w _ u i (fun e => hne (by rw [e]))).trans (h.block i hi hne)⟩
theorem only_refl (a : World) (row : Option Nat) : a.grownBy a row := ⟨rfl, rfl, rfl, Nat.le_refl _, fun _ _ _ => rfl⟩
theorem only_trans {a b c : World} {row : Option Nat} (h : a.grownBy b row) (k : b.grownBy c row) : a.grownBy c row :=
  ⟨k.os.trans h.os, k.tape.trans h.tape, k.output.trans h.output, Nat.le_trans h.size k.size, fun i hi hne => (k.block i (Nat.lt_of_lt_of_le hi h.size) hne).trans (h.block i hi hne)⟩

theorem posA_take (p : Int × Int) (s : ByteArray) (k : Nat) (h : k < s.size) : posA p (s.data.toList.take (k + 1)) = stepP (posA p (s.data.toList.take k)) s[k] := by
  have e : s.data.toList.take (k + 1) = s.data.toList.take k ++ [s[k]] := by
    rw [List.take_succ_eq_append_getElem (by simpa using h)]; rfl
  rw [e, posA_append]; rfl

theorem skF_step (f : Nat) (l : Bs) (n : Nat) : skF (f + 1) l n = if (gapR l).2 = false ∨ (gapR l).1 = 0 then (n, (gapR l).2) else skF f (l.drop (gapR l).1) (n + (gapR l).1) := rfl

end Go.Proofs.YtkjjagmpnnnimaaGreatDoor

namespace Go.Proofs.YtkjjagmpnnnimaaGreatDoor.M
open Go

/-- a token: its item and its position -/
abbrev Tok := TR × (Int × Int)
def sk (l : Bs) : Nat × Bool := skF (l.length + 1) l 0
def itErr (t : TR) (n : Nat) : Int := if t.err = 0 ∧ n = 16384 then 10 else t.err
def scF : Nat → Bs → Int × Int → List Tok → List Tok × (Int × Int) × Int
  | 0, _, _, _ => ([], (0, 0), 0)
  | f + 1, l, p, ts =>
    if (sk l).2 = false then ([], posA p (l.take (sk l).1), 2)
    else if l.drop (sk l).1 = [] then (ts, (0, 0), 0)
    else if itErr (itemR (l.drop (sk l).1)) ts.length ≠ 0 then ([], posA p (l.take (sk l).1), itErr (itemR (l.drop (sk l).1)) ts.length)
    else scF f ((l.drop (sk l).1).drop (itemN (l.drop (sk l).1))) (posA (posA p (l.take (sk l).1)) ((l.drop (sk l).1).take (itemN (l.drop (sk l).1))))
      (ts ++ [(itemR (l.drop (sk l).1), posA p (l.take (sk l).1))])
def scan (l : Bs) : List Tok × (Int × Int) × Int := if 65536 < l.length then ([], (0, 0), 10) else scF (l.length + 1) l (1, 1) []

theorem scF_step (f : Nat) (l : Bs) (p : Int × Int) (ts : List Tok) : scF (f + 1) l p ts =
    if (sk l).2 = false then ([], posA p (l.take (sk l).1), 2)
    else if l.drop (sk l).1 = [] then (ts, (0, 0), 0)
    else if itErr (itemR (l.drop (sk l).1)) ts.length ≠ 0 then ([], posA p (l.take (sk l).1), itErr (itemR (l.drop (sk l).1)) ts.length)
    else scF f ((l.drop (sk l).1).drop (itemN (l.drop (sk l).1))) (posA (posA p (l.take (sk l).1)) ((l.drop (sk l).1).take (itemN (l.drop (sk l).1))))
      (ts ++ [(itemR (l.drop (sk l).1), posA p (l.take (sk l).1))]) := rfl

theorem skF_le (f : Nat) : ∀ (l : Bs) (n : Nat), n ≤ (skF f l n).1 ∧ (skF f l n).1 ≤ n + l.length := by
  induction f with
  | zero => intro l n; simp [skF]
  | succ f ih =>
    intro l n
    unfold skF
    by_cases h : (gapR l).2 = false ∨ (gapR l).1 = 0
    · rw [if_pos h]; simp
    · rw [if_neg h]
      have := ih (l.drop (gapR l).1) (n + (gapR l).1)
      have hg := gapR_le l
      rw [List.length_drop] at this
      omega
theorem sk_le (l : Bs) : (sk l).1 ≤ l.length := by have := (skF_le (l.length + 1) l 0).2; unfold sk; omega

theorem firstP_prefix (l : Bs) (ps : List Bs) : (firstP l ps).length ≤ l.length := by
  induction ps with
  | nil => simp [firstP]
  | cons p ps ih =>
    unfold firstP
    split
    · rename_i h
      exact (List.isPrefixOf_iff_prefix.1 h).length_le
    · exact ih
theorem symB_len (l : Bs) : (symB l).length ≤ l.length := by
  unfold symB
  split
  · simp
  · rename_i c r
    have hi : ∀ (p : Prop) [Decidable p] (a b : Bs), a.length ≤ (c :: r).length → b.length ≤ (c :: r).length → (if p then a else b).length ≤ (c :: r).length := by
      intro p _ a b ha hb; split <;> assumption
    unfold symOf
    refine hi _ _ _ (firstP_prefix _ _) (hi _ _ _ (firstP_prefix _ _) (hi _ _ _ (firstP_prefix _ _) (hi _ _ _ ?_ ?_)))
    · unfold parenP; exact hi _ _ _ (by simp) (firstP_prefix _ _)
    · iterate 11 refine hi _ _ _ (firstP_prefix _ _) ?_
      exact hi _ _ _ (by simp) (by simp)
theorem itemN_le (l : Bs) : itemN l ≤ l.length := by
  unfold itemN
  split
  · exact wordN_le l
  · exact symB_len l
theorem itemN_pos (l : Bs) (h : (itemR l).err = 0) : 0 < itemN l := by
  unfold itemR at h
  unfold itemN
  split
  · omega
  · rename_i h0
    rw [if_neg h0] at h
    by_cases hy : symB l = []
    · rw [if_neg (fun k => k hy)] at h; exact absurd h (by decide)
    · exact List.length_pos_iff.2 hy

end Go.Proofs.YtkjjagmpnnnimaaGreatDoor.M
