/- Equality of two lists of tokens that lie in memory. No conditions but that there is memory for them. The tokens of a scan have short texts; the letters of the kinds; the statements' fixed examples on the model. No program in it. Both Inserts agree at every list of tokens: agrees returns true. Conditions: at most two hundred million tokens, strings of at most 2^47 bytes; strconv.ErrRange holds an interface value. -/
import Derived.Test.YtoogbgmneabfnaaDoorG16
import Derived.Test.YtoogbgmneabfnaaDoorG9
import Derived.Test.YtoogbgmneabfnaaDoorG23
namespace Go.Proofs.YtoogbgmneabfnaaDoor
open Go.RowKit M

set_option maxRecDepth 100000 in
set_option maxHeartbeats 1000000 in
theorem equal_toks (ts : List Tok) (n : Nat) (hn : n = ts.length) (hm : n ≤ 9223372036854775806) (A1 A2 : Option Addr) (c1 c2 : Nat) (w : World)
    (h1 : InToks w A1 ts) (h2 : InToks w A2 ts) :
    Calls Tryd.prog 11 #[.slice A1 n c1, .slice A2 n c2] w fun e w' => e = .returned (.bool true) ∧ ∃ m, w' = w.drewN m := by
  by_cases h0 : n = 0
  · subst h0
    clear h1 h2 hn
    go_enter Tryd.func11, Tryd.ntmps11
    go_wp2
    go_loopw [5] (fun t wr => t = .int .i64 0 ∧ Hid (∃ m, wr = w.drewN m)) (fun _ _ => 0)
    case atStart => exact ⟨rfl, 0, rfl⟩
    case round =>
      obtain ⟨rfl, hW⟩ := hrel
      obtain ⟨m, rfl⟩ := hW
      go_wp2
      go_ret
      exact ⟨rfl, m, rfl⟩
  · rcases h1 with h1 | ⟨g1, f1, rfl, _, HC1⟩
    · rw [h1] at hn; simp at hn; omega
    rcases h2 with h2 | ⟨g2, f2, rfl, _, HC2⟩
    · rw [h2] at hn; simp at hn; omega
    have HC1 := Lib.hid HC1
    have HC2 := Lib.hid HC2
    have HN := Lib.hid hn
    clear hn
    go_enter Tryd.func11, Tryd.ntmps11
    go_wp2
    go_loopw [5] (fun t wr => ∃ k : Nat, k ≤ n ∧ t = .int .i64 k ∧ Hid (∃ m, wr = w.drewN m)) (fun t _ => n - (intOf t).toNat)
    case atStart => exact ⟨0, by omega, rfl, 0, rfl⟩
    case round =>
      obtain ⟨k, hk, rfl, hW⟩ := hrel
      obtain ⟨m, rfl⟩ := hW
      by_cases hlt : k < n
      · obtain ⟨t, ht⟩ : ∃ t, ts[k]? = some t := by
          have : k < ts.length := by rw [← HN.out]; exact hlt
          exact ⟨ts[k], List.getElem?_eq_getElem this⟩
        obtain ⟨⟨kd, nu, st, er⟩, a, b⟩ := t
        have x0 := HC1.out k _ ht 0 _ rfl
        have x1 := HC1.out k _ ht 1 _ rfl
        have x2 := HC1.out k _ ht 2 _ rfl
        have x3 := HC1.out k _ ht 3 _ rfl
        have x4 := HC1.out k _ ht 4 _ rfl
        have y0 := HC2.out k _ ht 0 _ rfl
        have y1 := HC2.out k _ ht 1 _ rfl
        have y2 := HC2.out k _ ht 2 _ rfl
        have y3 := HC2.out k _ ht 3 _ rfl
        have y4 := HC2.out k _ ht 4 _ rfl
        simp only [Nat.add_zero] at x0 y0
        clear ht
        go_wp2
        go_quiet (fail)
        go_wp2
        go_roundw
        case rel => exact ⟨k + 1, by omega, by go_num, _, rfl⟩
        case measure => simp [intOf]; omega
      · go_wp2
        go_ret
        exact ⟨rfl, m, rfl⟩

end Go.Proofs.YtoogbgmneabfnaaDoor

namespace Go.Proofs.YtoogbgmneabfnaaDoor.M
open Go

theorem itemR_len (l : Bs) : (itemR l).str.length ≤ l.length := by
  unfold itemR
  split
  · have hw := wordN_le l
    have ht : (l.take (wordN l)).length ≤ l.length := by rw [List.length_take]; omega
    unfold wordR
    split
    · unfold intR
      split
      · simp
      · split
        · simp
        · split <;> simp
    · split
      · exact ht
      · split
        · exact ht
        · simp
  · split
    · exact symB_len l
    · simp
theorem scF_str (n f : Nat) : ∀ (l : Bs) (p : Int × Int) (ts : List Tok), l.length ≤ n → (∀ t ∈ ts, t.1.str.length ≤ n) → ∀ t ∈ (scF f l p ts).1, t.1.str.length ≤ n := by
  induction f with
  | zero => intro l p ts _ _ t ht; simp [scF] at ht
  | succ f ih =>
    intro l p ts hl h t ht
    rw [scF_step] at ht
    by_cases h1 : (sk l).2 = false
    · rw [if_pos h1] at ht; simp at ht
    rw [if_neg h1] at ht
    by_cases h2 : l.drop (sk l).1 = []
    · rw [if_pos h2] at ht; exact h t ht
    rw [if_neg h2] at ht
    by_cases h3 : itErr (itemR (l.drop (sk l).1)) ts.length ≠ 0
    · rw [if_pos h3] at ht; simp at ht
    rw [if_neg h3] at ht
    refine ih _ _ _ ?_ ?_ t ht
    · simp only [List.length_drop]; omega
    · intro u hu
      rcases List.mem_append.1 hu with hu | hu
      · exact h u hu
      · rw [List.mem_singleton] at hu
        subst hu
        have := itemR_len (l.drop (sk l).1)
        simp only [List.length_drop] at this
        show (itemR (l.drop (sk l).1)).str.length ≤ n
        omega
theorem scan_str (l : Bs) : ∀ t ∈ (scan l).1, t.1.str.length ≤ 65536 := by
  unfold scan
  by_cases h : 65536 < l.length
  · rw [if_pos h]; intro t ht; simp at ht
  · rw [if_neg h]
    exact scF_str 65536 _ l _ [] (by omega) (by intro t ht; simp at ht)

theorem insF_len : ∀ (l : List Tok) (k : Nat) (s : LSt), LInv k s → (insF s l).1.length ≤ 4 * (k + l.length) + 2 := by
  intro l
  induction l with
  | nil =>
    intro k s h
    show (endL s).1.length ≤ _
    have := h.out
    unfold endL
    split
    · simp
    · split
      · simp
      · simp; omega
  | cons t r ih =>
    intro k s h
    rw [insF_cons]
    by_cases h1 : (addL s t).1 ≠ 0
    · rw [if_pos h1]; simp
    · rw [if_neg h1]
      have := ih (k + 1) _ (add_inv t h (Classical.byContradiction h1))
      simp only [List.length_cons]; omega
theorem insL_len (l : List Tok) : (insL l).1.length ≤ 4 * l.length + 2 := by
  have := insF_len l 0 startL start_inv
  rw [Nat.zero_add] at this
  exact this

def letterK (k : Int) : UInt8 := if k = 5 then 79 else if k = 6 then 83 else if k = 7 then 67 else 46
def kindsB (ts : List Tok) : Bs := ts.map fun t => letterK t.1.kind
theorem kinds_next (ts : List Tok) (k : Nat) (t : Tok) (h : ts[k]? = some t) : kindsB (ts.take (k + 1)) = kindsB (ts.take k) ++ [letterK t.1.kind] := by
  unfold kindsB
  rw [List.take_add_one, h]; simp

def src1 : Bs := [102, 32, 61, 32, 108, 101, 116, 32, 120, 32, 61, 32, 49, 10, 32, 32, 32, 32, 32, 32, 32, 32, 121, 32, 61, 32, 50, 10, 32, 32, 32, 32, 119, 105, 116, 104, 105, 110, 32, 120, 10, 103, 32, 61, 32, 51]
theorem src1_ok : (insL (scan src1).1).2 = ((0, 0), 0) ∧ kindsB (insL (scan src1).1).1 = [79, 46, 46, 46, 79, 46, 46, 46, 83, 46, 46, 46, 67, 46, 46, 83, 46, 46, 46, 67] := by
  constructor <;> decide +kernel
theorem src2_ok : (insL (scan [32, 102, 32, 61, 32, 49]).1) = ([], (1, 2), 3) := by
  have h : (insL (scan [32, 102, 32, 61, 32, 49]).1).2 = ((1, 2), 3) := by decide +kernel
  have h1 := insF_err (scan [32, 102, 32, 61, 32, 49]).1 startL (by show (insL (scan [32, 102, 32, 61, 32, 49]).1).2.2 ≠ 0; rw [h]; decide)
  exact Prod.ext h1 h

end Go.Proofs.YtoogbgmneabfnaaDoor.M

namespace Go.Proofs.YtoogbgmneabfnaaDoor
open Go.RowKit M

set_option maxRecDepth 100000 in
set_option maxHeartbeats 3200000 in
theorem agrees2_any (w : World) (A : Option Addr) (n c : Nat) (ts : List Tok) (hn : n = ts.length) (hA : InToks w A ts) (hr : RangeVar w) (hm : ts.length ≤ 200000000) (hs : ∀ t ∈ ts, t.1.str.length ≤ 140737488355328) :
    Calls Tryd.prog 5 #[.slice A n c] w fun e w' => e = .returned (.bool true) ∧ Below w.heap.size w w' := by
  have HR := Lib.hid hr
  have HA := Lib.hid hA
  have H1 := Lib.hid (fun W h1 h2 => insert_all W A n c ts hn h1 h2 hm hs)
  have H2 := Lib.hid (fun W h1 => rinsert_all W A n c ts hn h1 hm hs)
  have hlen := insL_len ts
  generalize insL ts = R at *
  obtain ⟨out, ⟨a, b⟩, er⟩ := R
  simp only at hlen
  have hlen : out.length ≤ 900000000 := by omega
  clear hr hA hs hm hn
  go_enter Tryd.func5, Tryd.ntmps5
  go_wp2_with fail
  refine (H1.out _ HA.out HR.out).mono ?_
  rintro e w1 ⟨v1, rfl, ho1, hb1⟩
  simp only at ho1
  obtain ⟨A1, c1, rfl⟩ := owns_form ho1
  have HO1 := Lib.hid ho1
  have HB1 := Lib.hid hb1
  have HA1 := Lib.hid (HA.out.below hb1)
  have hs1 := hb1.size
  clear ho1 hb1
  go_wp2_with fail
  refine (H2.out _ (HA1.out.alloc _)).mono ?_
  rintro e w2 ⟨v2, rfl, ho2, hb2⟩
  simp only at ho2
  obtain ⟨A2, c2, rfl⟩ := owns_form ho2
  obtain ⟨hc2, hf2⟩ := bcell_alloc hb2
  have hz2 : w1.heap.size + 1 ≤ w2.heap.size := by have := hb2.size; simp at this; omega
  have HE := Lib.hid (fun o : Obj => equal_toks out out.length rfl (by omega) A1 A2 c1 c2 (w2.alloc o) (InToks.own (((owns_below (owns_alloc_n HO1.out _) hb2)).alloc o) rfl) (InToks.own (ho2.alloc o) rfl))
  have HB2 := Lib.hid hb2
  clear hb2 ho2
  go_wp2_with fail
  refine (HE.out _).mono ?_
  rintro e w3 ⟨rfl, m, rfl⟩
  go_wp2
  go_ret
  exact ⟨rfl, below_drewN' (((HB1.out.alloc hs1 _).trans (HB2.out.mono (by simp; omega))).alloc (by omega) _) _⟩

end Go.Proofs.YtoogbgmneabfnaaDoor
