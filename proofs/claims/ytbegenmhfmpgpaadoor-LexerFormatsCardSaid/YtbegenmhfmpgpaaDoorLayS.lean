/- The tokens of a scan have short texts; the letters of the kinds; the statements' fixed examples on the model. No program in it. -/
import Derived.Test.YtbegenmhfmpgpaaDoorLayN
namespace Go.Proofs.YtbegenmhfmpgpaaDoor.M
open Go

theorem itemR_len (l : Bs) : (itemR l).str.length ≤ l.length := by
  unfold itemR
  split
  · have hw := wordN_le l
    have ht : (l.take (wordN l)).length ≤ l.length := by rw [List.length_take]; omega
    unfold wordR
    split
    · unfold intR
      split
      · simp
      · split
        · simp
        · split <;> simp
    · split
      · exact ht
      · split
        · exact ht
        · simp
  · split
    · exact symB_len l
    · simp
theorem scF_str (n f : Nat) : ∀ (l : Bs) (p : Int × Int) (ts : List Tok), l.length ≤ n → (∀ t ∈ ts, t.1.str.length ≤ n) → ∀ t ∈ (scF f l p ts).1, t.1.str.length ≤ n := by
  induction f with
  | zero => intro l p ts _ _ t ht; simp [scF] at ht
  | succ f ih =>
    intro l p ts hl h t ht
    rw [scF_step] at ht
    by_cases h1 : (sk l).2 = false
    · rw [if_pos h1] at ht; simp at ht
    rw [if_neg h1] at ht
    by_cases h2 : l.drop (sk l).1 = []
    · rw [if_pos h2] at ht; exact h t ht
    rw [if_neg h2] at ht
    by_cases h3 : itErr (itemR (l.drop (sk l).1)) ts.length ≠ 0
    · rw [if_pos h3] at ht; simp at ht
    rw [if_neg h3] at ht
    refine ih _ _ _ ?_ ?_ t ht
    · simp only [List.length_drop]; omega
    · intro u hu
      rcases List.mem_append.1 hu with hu | hu
      · exact h u hu
      · rw [List.mem_singleton] at hu
        subst hu
        have := itemR_len (l.drop (sk l).1)
        simp only [List.length_drop] at this
        show (itemR (l.drop (sk l).1)).str.length ≤ n
        omega
theorem scan_str (l : Bs) : ∀ t ∈ (scan l).1, t.1.str.length ≤ 65536 := by
  unfold scan
  by_cases h : 65536 < l.length
  · rw [if_pos h]; intro t ht; simp at ht
  · rw [if_neg h]
    exact scF_str 65536 _ l _ [] (by omega) (by intro t ht; simp at ht)

theorem insF_len : ∀ (l : List Tok) (k : Nat) (s : LSt), LInv k s → (insF s l).1.length ≤ 4 * (k + l.length) + 2 := by
  intro l
  induction l with
  | nil =>
    intro k s h
    show (endL s).1.length ≤ _
    have := h.out
    unfold endL
    split
    · simp
    · split
      · simp
      · simp; omega
  | cons t r ih =>
    intro k s h
    rw [insF_cons]
    by_cases h1 : (addL s t).1 ≠ 0
    · rw [if_pos h1]; simp
    · rw [if_neg h1]
      have := ih (k + 1) _ (add_inv t h (Classical.byContradiction h1))
      simp only [List.length_cons]; omega
theorem insL_len (l : List Tok) : (insL l).1.length ≤ 4 * l.length + 2 := by
  have := insF_len l 0 startL start_inv
  rw [Nat.zero_add] at this
  exact this

def letterK (k : Int) : UInt8 := if k = 5 then 79 else if k = 6 then 83 else if k = 7 then 67 else 46
def kindsB (ts : List Tok) : Bs := ts.map fun t => letterK t.1.kind
theorem kinds_next (ts : List Tok) (k : Nat) (t : Tok) (h : ts[k]? = some t) : kindsB (ts.take (k + 1)) = kindsB (ts.take k) ++ [letterK t.1.kind] := by
  unfold kindsB
  rw [List.take_add_one, h]; simp

def src1 : Bs := [102, 32, 61, 32, 108, 101, 116, 32, 120, 32, 61, 32, 49, 10, 32, 32, 32, 32, 32, 32, 32, 32, 121, 32, 61, 32, 50, 10, 32, 32, 32, 32, 119, 105, 116, 104, 105, 110, 32, 120, 10, 103, 32, 61, 32, 51]
theorem src1_ok : (insL (scan src1).1).2 = ((0, 0), 0) ∧ kindsB (insL (scan src1).1).1 = [79, 46, 46, 46, 79, 46, 46, 46, 83, 46, 46, 46, 67, 46, 46, 83, 46, 46, 46, 67] := by
  constructor <;> decide +kernel
theorem src2_ok : (insL (scan [32, 102, 32, 61, 32, 49]).1) = ([], (1, 2), 3) := by
  have h : (insL (scan [32, 102, 32, 61, 32, 49]).1).2 = ((1, 2), 3) := by decide +kernel
  have h1 := insF_err (scan [32, 102, 32, 61, 32, 49]).1 startL (by show (insL (scan [32, 102, 32, 61, 32, 49]).1).2.2 ≠ 0; rw [h]; decide)
  exact Prod.ext h1 h

end Go.Proofs.YtbegenmhfmpgpaaDoor.M
