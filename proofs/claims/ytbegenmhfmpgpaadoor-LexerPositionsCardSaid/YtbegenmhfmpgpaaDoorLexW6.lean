/- What the lexer's item returns at every string of at most 65536 bytes. -/
import Derived.Test.YtbegenmhfmpgpaaDoorLexW5
namespace Go.Proofs.YtbegenmhfmpgpaaDoor
open Go.RowKit M

theorem wordN_eq (s : ByteArray) (hp : 0 < s.size) (h : (letterB s[0] || digitB s[0]) = true) : wordN s.data.toList = 1 + wlen (rest s 1) := by
  rw [head_of s hp]; unfold wordN; simp [h]
theorem take_size (s : ByteArray) (n : Nat) (h : n ≤ s.size) : (s.extract 0 n).size = n := by
  rw [ByteArray.size_extract]; omega
theorem isEmptyS (y : Bs) (h : y ≠ []) : 0 < (S y).size := by
  cases y with
  | nil => exact absurd rfl h
  | cons a b => simp [ByteArray.size]

def itemV3 (t : TR) (n : Nat) : Value := .tuple #[tokV t.kind t.num t.str 0 0, .int .i64 n, .int .i64 t.err]

set_option maxHeartbeats 1000000 in
theorem item_none (s : ByteArray) (h : wordN s.data.toList = 0) (hy : symB s.data.toList = []) (w : World) :
    Calls Tryd.prog 26 #[.string s] w fun e w' => e = .returned (.tuple #[tokV 0 0 [] 0 0, .int .i64 (0 : Nat), .int .i64 2]) ∧ Below w.heap.size w w' := by
  have hS := fun W => symbol_any s W
  rw [hy] at hS
  have HS := Lib.hid hS
  have HW := Lib.hid h
  clear hS h hy
  go_enter Tryd.func26, Tryd.ntmps26
  go_wp2_with fail
  refine (word_none s HW.out _).mono ?_
  rintro e w' ⟨rfl, rfl⟩
  go_wp2_with fail
  refine (HS.out _).mono ?_
  rintro e w1 ⟨rfl, hb⟩
  obtain ⟨hc, hf⟩ := bcell hb
  have hz : w.heap.size + 1 ≤ w1.heap.size := by have := hb.size; simp at this; omega
  go_wp2
  obtain ⟨hc, _⟩ := bcell hb
  refine bodyPost_ret (v := .tuple #[tokV 0 0 [] 0 0, .int .i64 (0 : Nat), .int .i64 2]) ?_ rfl ⟨rfl, ?_⟩
  · simp [results, Tryd.results26, go_sem, hc]
  · exact (((((((Below.refl _ _).alloc (Nat.le_refl _) _).trans (hb.mono (by simp))).setCell (by simp) _).setCell (by simp) _).setCell (by simp) _).setCell (by simp) _).setCell (by simp) _

set_option maxHeartbeats 1000000 in
theorem item_symbol (s : ByteArray) (y : Bs) (h : wordN s.data.toList = 0) (hy : symB s.data.toList = y) (hne : y ≠ []) (hl : y.length ≤ 3000) (w : World) :
    Calls Tryd.prog 26 #[.string s] w fun e w' => e = .returned (.tuple #[tokV 4 0 y 0 0, .int .i64 y.length, .int .i64 0]) ∧ Below w.heap.size w w' := by
  have hS := fun W => symbol_any s W
  rw [hy] at hS
  obtain ⟨e1, e2⟩ := notEmpty (S y) (isEmptyS y hne)
  have HY : Hid ((S y).size = y.length) := by unfold Hid; rfl
  have HS := Lib.hid hS
  have HW := Lib.hid h
  clear hS h hy
  generalize hq : S y = q at *
  have hQ := Lib.hid hq
  clear hq
  have hq64 : q.size ≤ 3000 := by rw [HY.out]; exact hl
  clear hl
  go_enter Tryd.func26, Tryd.ntmps26
  go_wp2_with fail
  refine (word_none s HW.out _).mono ?_
  rintro e w' ⟨rfl, rfl⟩
  go_wp2_with fail
  refine (HS.out _).mono ?_
  rintro e w1 ⟨rfl, hb⟩
  obtain ⟨hc, hf⟩ := bcell hb
  have hz : w.heap.size + 1 ≤ w1.heap.size := by have := hb.size; simp at this; omega
  go_wp2
  obtain ⟨hc, _⟩ := bcell hb
  refine bodyPost_ret (v := .tuple #[tokV 4 0 y 0 0, .int .i64 y.length, .int .i64 0]) ?_ rfl ⟨rfl, ?_⟩
  · rw [← HY.out]
    unfold tokV
    rw [hQ.out]
    simp [results, Tryd.results26, go_sem, hc]
  · exact (((((((Below.refl _ _).alloc (Nat.le_refl _) _).trans (hb.mono (by simp))).setCell (by simp) _).setCell (by simp) _).setCell (by simp) _).setCell (by simp) _).setCell (by simp) _

/-- what a contract leaves of the blocks that were there, also when a new block is made behind it -/
theorem bcell_alloc {W w1 : World} (hb : Below W.heap.size W w1) : (∀ (x : Obj) b o, b < W.heap.size → (w1.alloc x).cell? ⟨b, o, none⟩ = W.cell? ⟨b, o, none⟩) ∧ (∀ (x : Obj) b o, b < W.heap.size → (w1.alloc x).frozen? ⟨b, o, none⟩ = W.frozen? ⟨b, o, none⟩) :=
  ⟨fun x b o h => ((hb.alloc hb.size x).cell (p := ⟨b, o, none⟩) h), fun x b o h => ((hb.alloc hb.size x).frozen (p := ⟨b, o, none⟩) h)⟩

def WordCall (s q : ByteArray) : Prop := ∀ W, Calls Tryd.prog 51 #[.string s] W fun e w' => e = .returned (.string q) ∧ W = w'
def TokCall (q : ByteArray) (k n er : Int) (st : Bs) : Prop := ∀ W, RangeVar W → Calls Tryd.prog 52 #[.string q] W fun e w' => e = .returned (.tuple #[tokV k n st 0 0, .int .i64 er]) ∧ Below W.heap.size W w'

set_option maxHeartbeats 1000000 in
theorem item_core (s q : ByteArray) (hq : 0 < q.size) (k n er : Int) (st : Bs) (HW : WordCall s q) (HT : TokCall q k n er st) (w : World) (hr : RangeVar w) :
    Calls Tryd.prog 26 #[.string s] w fun e w' => e = .returned (.tuple #[tokV k n st 0 0, .int .i64 q.size, .int .i64 er]) ∧ Below w.heap.size w w' := by
  obtain ⟨e1, e2⟩ := notEmpty q hq
  have hR := Lib.hid hr
  clear hr
  go_enter Tryd.func26, Tryd.ntmps26
  go_wp2_with fail
  refine (HW _).mono ?_
  rintro e w' ⟨rfl, rfl⟩
  go_wp2_with fail
  refine (HT _ (hR.out.alloc _)).mono ?_
  rintro e w1 ⟨rfl, hb⟩
  obtain ⟨hc, hf⟩ := bcell_alloc hb
  have hz : w.heap.size + 1 ≤ w1.heap.size := by have := hb.size; simp at this; omega
  go_wp2
  obtain ⟨hc, _⟩ := bcell_alloc hb
  refine bodyPost_ret (v := .tuple #[tokV k n st 0 0, .int .i64 q.size, .int .i64 er]) ?_ rfl ⟨rfl, ?_⟩
  · simp [results, Tryd.results26, go_sem, hc]
  · exact ((((((((Below.refl _ _).alloc (Nat.le_refl _) _).trans (hb.mono (by simp))).alloc (by omega) _).setCell (by simp) _).setCell (by simp) _).setCell (by simp) _).setCell (by simp) _).setCell (by simp) _

theorem item_word (s : ByteArray) (hm : s.size ≤ 140737488355328) (hp : 0 < s.size) (h : (letterB s[0] || digitB s[0]) = true) (w : World) (hr : RangeVar w) :
    Calls Tryd.prog 26 #[.string s] w fun e w' => e = .returned (itemV3 (wordR (s.data.toList.take (wordN s.data.toList))) (wordN s.data.toList)) ∧ Below w.heap.size w w' := by
  have hle := wordN_le s.data.toList
  have hlen : s.data.toList.length = s.size := by simp
  have hw := wordN_eq s hp h
  have hqs : (s.extract 0 (wordN s.data.toList)).size = wordN s.data.toList := take_size _ _ (by omega)
  have hW : WordCall s (s.extract 0 (wordN s.data.toList)) := fun W => by rw [hw]; exact word_some s (by unfold maxLen; omega) hp h W
  have hT := fun W hr => wordToken_any (s.extract 0 (wordN s.data.toList)) (by omega) (by omega) W hr
  rw [extract_take] at hT
  generalize wordR (List.take (wordN s.data.toList) s.data.toList) = t at *
  obtain ⟨k, n, st, er⟩ := t
  have := item_core s (s.extract 0 (wordN s.data.toList)) (by omega) k n er st hW hT w hr
  rw [hqs] at this
  exact this

theorem symOf_le (c : UInt8) (l : Bs) : (symOf c l).length ≤ 4 := by
  have hf : ∀ ps : List Bs, (∀ p, p ∈ ps → p.length ≤ 4) → (firstP l ps).length ≤ 4 := by
    intro ps
    induction ps with
    | nil => intro _; simp [firstP]
    | cons p ps ih =>
      intro h
      unfold firstP
      split
      · exact h p (by simp)
      · exact ih fun q hq => h q (by simp [hq])
  have hi : ∀ (c : Prop) [Decidable c] (a b : Bs), a.length ≤ 4 → b.length ≤ 4 → (if c then a else b).length ≤ 4 := by
    intro c _ a b ha hb; split <;> assumption
  unfold symOf
  refine hi _ _ _ (hf _ (by decide)) (hi _ _ _ (hf _ (by decide)) (hi _ _ _ (hf _ (by decide)) (hi _ _ _ ?_ ?_)))
  · unfold parenP; exact hi _ _ _ (by decide) (hf _ (by decide))
  · iterate 11 refine hi _ _ _ (hf _ (by decide)) ?_
    exact hi _ _ _ (by simp) (by simp)
theorem symB_le (l : Bs) : (symB l).length ≤ 4 := by
  unfold symB
  split
  · simp
  · exact symOf_le _ _

theorem wordN_zero (s : ByteArray) (hp : 0 < s.size) (h : (letterB s[0] || digitB s[0]) = false) : wordN s.data.toList = 0 := by
  rw [head_of s hp]; unfold wordN; simp [h]

theorem item_any (s : ByteArray) (hm : s.size ≤ 140737488355328) (hp : 0 < s.size) (w : World) (hr : RangeVar w) :
    Calls Tryd.prog 26 #[.string s] w fun e w' => e = .returned (itemV3 (itemR s.data.toList) (itemN s.data.toList)) ∧ Below w.heap.size w w' := by
  unfold itemR itemN
  cases h : (letterB s[0] || digitB s[0])
  · have h0 := wordN_zero s hp h
    simp only [h0, ne_eq, not_true_eq_false, if_false]
    by_cases hy : symB s.data.toList = []
    · rw [if_neg (fun h => h hy), hy]; exact item_none s h0 hy w
    · rw [if_pos hy]; exact item_symbol s _ h0 rfl hy (by have := symB_le s.data.toList; omega) w
  · have h1 : wordN s.data.toList ≠ 0 := by rw [wordN_eq s hp h]; omega
    rw [if_pos h1, if_pos h1]
    exact item_word s hm hp h w hr

end Go.Proofs.YtbegenmhfmpgpaaDoor
