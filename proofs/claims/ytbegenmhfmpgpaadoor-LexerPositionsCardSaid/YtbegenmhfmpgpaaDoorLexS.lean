/- The plain model of Scan: the tokens of a text, or its first error and where it is. No program in it. -/
import Derived.Test.YtbegenmhfmpgpaaDoorLexG
import Derived.Test.YtbegenmhfmpgpaaDoorLexI
namespace Go.Proofs.YtbegenmhfmpgpaaDoor.M
open Go

/-- a token: its item and its position -/
abbrev Tok := TR × (Int × Int)
def sk (l : Bs) : Nat × Bool := skF (l.length + 1) l 0
def itErr (t : TR) (n : Nat) : Int := if t.err = 0 ∧ n = 16384 then 10 else t.err
def scF : Nat → Bs → Int × Int → List Tok → List Tok × (Int × Int) × Int
  | 0, _, _, _ => ([], (0, 0), 0)
  | f + 1, l, p, ts =>
    if (sk l).2 = false then ([], posA p (l.take (sk l).1), 2)
    else if l.drop (sk l).1 = [] then (ts, (0, 0), 0)
    else if itErr (itemR (l.drop (sk l).1)) ts.length ≠ 0 then ([], posA p (l.take (sk l).1), itErr (itemR (l.drop (sk l).1)) ts.length)
    else scF f ((l.drop (sk l).1).drop (itemN (l.drop (sk l).1))) (posA (posA p (l.take (sk l).1)) ((l.drop (sk l).1).take (itemN (l.drop (sk l).1))))
      (ts ++ [(itemR (l.drop (sk l).1), posA p (l.take (sk l).1))])
def scan (l : Bs) : List Tok × (Int × Int) × Int := if 65536 < l.length then ([], (0, 0), 10) else scF (l.length + 1) l (1, 1) []

theorem scF_step (f : Nat) (l : Bs) (p : Int × Int) (ts : List Tok) : scF (f + 1) l p ts =
    if (sk l).2 = false then ([], posA p (l.take (sk l).1), 2)
    else if l.drop (sk l).1 = [] then (ts, (0, 0), 0)
    else if itErr (itemR (l.drop (sk l).1)) ts.length ≠ 0 then ([], posA p (l.take (sk l).1), itErr (itemR (l.drop (sk l).1)) ts.length)
    else scF f ((l.drop (sk l).1).drop (itemN (l.drop (sk l).1))) (posA (posA p (l.take (sk l).1)) ((l.drop (sk l).1).take (itemN (l.drop (sk l).1))))
      (ts ++ [(itemR (l.drop (sk l).1), posA p (l.take (sk l).1))]) := rfl

theorem skF_le (f : Nat) : ∀ (l : Bs) (n : Nat), n ≤ (skF f l n).1 ∧ (skF f l n).1 ≤ n + l.length := by
  induction f with
  | zero => intro l n; simp [skF]
  | succ f ih =>
    intro l n
    unfold skF
    by_cases h : (gapR l).2 = false ∨ (gapR l).1 = 0
    · rw [if_pos h]; simp
    · rw [if_neg h]
      have := ih (l.drop (gapR l).1) (n + (gapR l).1)
      have hg := gapR_le l
      rw [List.length_drop] at this
      omega
theorem sk_le (l : Bs) : (sk l).1 ≤ l.length := by have := (skF_le (l.length + 1) l 0).2; unfold sk; omega

theorem firstP_prefix (l : Bs) (ps : List Bs) : (firstP l ps).length ≤ l.length := by
  induction ps with
  | nil => simp [firstP]
  | cons p ps ih =>
    unfold firstP
    split
    · rename_i h
      exact (List.isPrefixOf_iff_prefix.1 h).length_le
    · exact ih
theorem symB_len (l : Bs) : (symB l).length ≤ l.length := by
  unfold symB
  split
  · simp
  · rename_i c r
    have hi : ∀ (p : Prop) [Decidable p] (a b : Bs), a.length ≤ (c :: r).length → b.length ≤ (c :: r).length → (if p then a else b).length ≤ (c :: r).length := by
      intro p _ a b ha hb; split <;> assumption
    unfold symOf
    refine hi _ _ _ (firstP_prefix _ _) (hi _ _ _ (firstP_prefix _ _) (hi _ _ _ (firstP_prefix _ _) (hi _ _ _ ?_ ?_)))
    · unfold parenP; exact hi _ _ _ (by simp) (firstP_prefix _ _)
    · iterate 11 refine hi _ _ _ (firstP_prefix _ _) ?_
      exact hi _ _ _ (by simp) (by simp)
theorem itemN_le (l : Bs) : itemN l ≤ l.length := by
  unfold itemN
  split
  · exact wordN_le l
  · exact symB_len l
theorem itemN_pos (l : Bs) (h : (itemR l).err = 0) : 0 < itemN l := by
  unfold itemR at h
  unfold itemN
  split
  · omega
  · rename_i h0
    rw [if_neg h0] at h
    by_cases hy : symB l = []
    · rw [if_neg (fun k => k hy)] at h; exact absurd h (by decide)
    · exact List.length_pos_iff.2 hy

end Go.Proofs.YtbegenmhfmpgpaaDoor.M
