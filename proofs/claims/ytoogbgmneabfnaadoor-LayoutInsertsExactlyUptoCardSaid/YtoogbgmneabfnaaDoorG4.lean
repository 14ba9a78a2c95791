/- What the lexer's item returns at every string of at most 65536 bytes. The plain model of what lies between items: white space, comments, positions. No program in it. Laws on what is left of a string, on positions, and on worlds in which one block was written. -/
import Derived.Test.YtoogbgmneabfnaaDoorG3
import Derived.Test.YtoogbgmneabfnaaDoorG1
import Derived.Lib.Bytealg
namespace Go.Proofs.YtoogbgmneabfnaaDoor
open Go.RowKit M

theorem wordN_eq (s : ByteArray) (hp : 0 < s.size) (h : (letterB s[0] || digitB s[0]) = true) : wordN s.data.toList = 1 + wlen (rest s 1) := by
  rw [head_of s hp]; unfold wordN; simp [h]
theorem take_size (s : ByteArray) (n : Nat) (h : n ≤ s.size) : (s.extract 0 n).size = n := by
  rw [ByteArray.size_extract]; omega
theorem isEmptyS (y : Bs) (h : y ≠ []) : 0 < (S y).size := by
  cases y with
  | nil => exact absurd rfl h
  | cons a b => simp [ByteArray.size]

def itemV3 (t : TR) (n : Nat) : Value := .tuple #[tokV t.kind t.num t.str 0 0, .int .i64 n, .int .i64 t.err]

set_option maxHeartbeats 1000000 in
theorem item_none (s : ByteArray) (h : wordN s.data.toList = 0) (hy : symB s.data.toList = []) (w : World) :
    Calls Tryd.prog 51 #[.string s] w fun e w' => e = .returned (.tuple #[tokV 0 0 [] 0 0, .int .i64 (0 : Nat), .int .i64 2]) ∧ Below w.heap.size w w' := by
  have hS := fun W => symbol_any s W
  rw [hy] at hS
  have HS := Lib.hid hS
  have HW := Lib.hid h
  clear hS h hy
  go_enter Tryd.func51, Tryd.ntmps51
  go_wp2_with fail
  refine (word_none s HW.out _).mono ?_
  rintro e w' ⟨rfl, rfl⟩
  go_wp2_with fail
  refine (HS.out _).mono ?_
  rintro e w1 ⟨rfl, hb⟩
  obtain ⟨hc, hf⟩ := bcell hb
  have hz : w.heap.size + 1 ≤ w1.heap.size := by have := hb.size; simp at this; omega
  go_wp2
  obtain ⟨hc, _⟩ := bcell hb
  refine bodyPost_ret (v := .tuple #[tokV 0 0 [] 0 0, .int .i64 (0 : Nat), .int .i64 2]) ?_ rfl ⟨rfl, ?_⟩
  · simp [results, Tryd.results51, go_sem, hc]
  · exact (((((((Below.refl _ _).alloc (Nat.le_refl _) _).trans (hb.mono (by simp))).setCell (by simp) _).setCell (by simp) _).setCell (by simp) _).setCell (by simp) _).setCell (by simp) _

set_option maxHeartbeats 1000000 in
theorem item_symbol (s : ByteArray) (y : Bs) (h : wordN s.data.toList = 0) (hy : symB s.data.toList = y) (hne : y ≠ []) (hl : y.length ≤ 3000) (w : World) :
    Calls Tryd.prog 51 #[.string s] w fun e w' => e = .returned (.tuple #[tokV 4 0 y 0 0, .int .i64 y.length, .int .i64 0]) ∧ Below w.heap.size w w' := by
  have hS := fun W => symbol_any s W
  rw [hy] at hS
  obtain ⟨e1, e2⟩ := notEmpty (S y) (isEmptyS y hne)
  have HY : Hid ((S y).size = y.length) := by unfold Hid; rfl
  have HS := Lib.hid hS
  have HW := Lib.hid h
  clear hS h hy
  generalize hq : S y = q at *
  have hQ := Lib.hid hq
  clear hq
  have hq64 : q.size ≤ 3000 := by rw [HY.out]; exact hl
  clear hl
  go_enter Tryd.func51, Tryd.ntmps51
  go_wp2_with fail
  refine (word_none s HW.out _).mono ?_
  rintro e w' ⟨rfl, rfl⟩
  go_wp2_with fail
  refine (HS.out _).mono ?_
  rintro e w1 ⟨rfl, hb⟩
  obtain ⟨hc, hf⟩ := bcell hb
  have hz : w.heap.size + 1 ≤ w1.heap.size := by have := hb.size; simp at this; omega
  go_wp2
  obtain ⟨hc, _⟩ := bcell hb
  refine bodyPost_ret (v := .tuple #[tokV 4 0 y 0 0, .int .i64 y.length, .int .i64 0]) ?_ rfl ⟨rfl, ?_⟩
  · rw [← HY.out]
    unfold tokV
    rw [hQ.out]
    simp [results, Tryd.results51, go_sem, hc]
  · exact (((((((Below.refl _ _).alloc (Nat.le_refl _) _).trans (hb.mono (by simp))).setCell (by simp) _).setCell (by simp) _).setCell (by simp) _).setCell (by simp) _).setCell (by simp) _

/-- what a contract leaves of the blocks that were there, also when a new block is made behind it -/
theorem bcell_alloc {W w1 : World} (hb : Below W.heap.size W w1) : (∀ (x : Obj) b o, b < W.heap.size → (w1.alloc x).cell? ⟨b, o, none⟩ = W.cell? ⟨b, o, none⟩) ∧ (∀ (x : Obj) b o, b < W.heap.size → (w1.alloc x).frozen? ⟨b, o, none⟩ = W.frozen? ⟨b, o, none⟩) :=
  ⟨fun x b o h => ((hb.alloc hb.size x).cell (p := ⟨b, o, none⟩) h), fun x b o h => ((hb.alloc hb.size x).frozen (p := ⟨b, o, none⟩) h)⟩

def WordCall (s q : ByteArray) : Prop := ∀ W, Calls Tryd.prog 54 #[.string s] W fun e w' => e = .returned (.string q) ∧ W = w'
def TokCall (q : ByteArray) (k n er : Int) (st : Bs) : Prop := ∀ W, RangeVar W → Calls Tryd.prog 55 #[.string q] W fun e w' => e = .returned (.tuple #[tokV k n st 0 0, .int .i64 er]) ∧ Below W.heap.size W w'

set_option maxHeartbeats 1000000 in
theorem item_core (s q : ByteArray) (hq : 0 < q.size) (k n er : Int) (st : Bs) (HW : WordCall s q) (HT : TokCall q k n er st) (w : World) (hr : RangeVar w) :
    Calls Tryd.prog 51 #[.string s] w fun e w' => e = .returned (.tuple #[tokV k n st 0 0, .int .i64 q.size, .int .i64 er]) ∧ Below w.heap.size w w' := by
  obtain ⟨e1, e2⟩ := notEmpty q hq
  have hR := Lib.hid hr
  clear hr
  go_enter Tryd.func51, Tryd.ntmps51
  go_wp2_with fail
  refine (HW _).mono ?_
  rintro e w' ⟨rfl, rfl⟩
  go_wp2_with fail
  refine (HT _ (hR.out.alloc _)).mono ?_
  rintro e w1 ⟨rfl, hb⟩
  obtain ⟨hc, hf⟩ := bcell_alloc hb
  have hz : w.heap.size + 1 ≤ w1.heap.size := by have := hb.size; simp at this; omega
  go_wp2
  obtain ⟨hc, _⟩ := bcell_alloc hb
  refine bodyPost_ret (v := .tuple #[tokV k n st 0 0, .int .i64 q.size, .int .i64 er]) ?_ rfl ⟨rfl, ?_⟩
  · simp [results, Tryd.results51, go_sem, hc]
  · exact ((((((((Below.refl _ _).alloc (Nat.le_refl _) _).trans (hb.mono (by simp))).alloc (by omega) _).setCell (by simp) _).setCell (by simp) _).setCell (by simp) _).setCell (by simp) _).setCell (by simp) _

theorem item_word (s : ByteArray) (hm : s.size ≤ 140737488355328) (hp : 0 < s.size) (h : (letterB s[0] || digitB s[0]) = true) (w : World) (hr : RangeVar w) :
    Calls Tryd.prog 51 #[.string s] w fun e w' => e = .returned (itemV3 (wordR (s.data.toList.take (wordN s.data.toList))) (wordN s.data.toList)) ∧ Below w.heap.size w w' := by
  have hle := wordN_le s.data.toList
  have hlen : s.data.toList.length = s.size := by simp
  have hw := wordN_eq s hp h
  have hqs : (s.extract 0 (wordN s.data.toList)).size = wordN s.data.toList := take_size _ _ (by omega)
  have hW : WordCall s (s.extract 0 (wordN s.data.toList)) := fun W => by rw [hw]; exact word_some s (by unfold maxLen; omega) hp h W
  have hT := fun W hr => wordToken_any (s.extract 0 (wordN s.data.toList)) (by omega) (by omega) W hr
  rw [extract_take] at hT
  generalize wordR (List.take (wordN s.data.toList) s.data.toList) = t at *
  obtain ⟨k, n, st, er⟩ := t
  have := item_core s (s.extract 0 (wordN s.data.toList)) (by omega) k n er st hW hT w hr
  rw [hqs] at this
  exact this

theorem symOf_le (c : UInt8) (l : Bs) : (symOf c l).length ≤ 4 := by
  have hf : ∀ ps : List Bs, (∀ p, p ∈ ps → p.length ≤ 4) → (firstP l ps).length ≤ 4 := by
    intro ps
    induction ps with
    | nil => intro _; simp [firstP]
    | cons p ps ih =>
      intro h
      unfold firstP
      split
      · exact h p (by simp)
      · exact ih fun q hq => h q (by simp [hq])
  have hi : ∀ (c : Prop) [Decidable c] (a b : Bs), a.length ≤ 4 → b.length ≤ 4 → (if c then a else b).length ≤ 4 := by
    intro c _ a b ha hb; split <;> assumption
  unfold symOf
  refine hi _ _ _ (hf _ (by decide)) (hi _ _ _ (hf _ (by decide)) (hi _ _ _ (hf _ (by decide)) (hi _ _ _ ?_ ?_)))
  · unfold parenP; exact hi _ _ _ (by decide) (hf _ (by decide))
  · iterate 11 refine hi _ _ _ (hf _ (by decide)) ?_
    exact hi _ _ _ (by simp) (by simp)
theorem symB_le (l : Bs) : (symB l).length ≤ 4 := by
  unfold symB
  split
  · simp
  · exact symOf_le _ _

theorem wordN_zero (s : ByteArray) (hp : 0 < s.size) (h : (letterB s[0] || digitB s[0]) = false) : wordN s.data.toList = 0 := by
  rw [head_of s hp]; unfold wordN; simp [h]

theorem item_any (s : ByteArray) (hm : s.size ≤ 140737488355328) (hp : 0 < s.size) (w : World) (hr : RangeVar w) :
    Calls Tryd.prog 51 #[.string s] w fun e w' => e = .returned (itemV3 (itemR s.data.toList) (itemN s.data.toList)) ∧ Below w.heap.size w w' := by
  unfold itemR itemN
  cases h : (letterB s[0] || digitB s[0])
  · have h0 := wordN_zero s hp h
    simp only [h0, ne_eq, not_true_eq_false, if_false]
    by_cases hy : symB s.data.toList = []
    · rw [if_neg (fun h => h hy), hy]; exact item_none s h0 hy w
    · rw [if_pos hy]; exact item_symbol s _ h0 rfl hy (by have := symB_le s.data.toList; omega) w
  · have h1 : wordN s.data.toList ≠ 0 := by rw [wordN_eq s hp h]; omega
    rw [if_pos h1, if_pos h1]
    exact item_word s hm hp h w hr

end Go.Proofs.YtoogbgmneabfnaaDoor

namespace Go.Proofs.YtoogbgmneabfnaaDoor.M
open Go

/-- the bytes before the first line feed -/
def lineN (l : Bs) : Nat := (l.takeWhile (· != 10)).length
/-- a comment's size: fuel, depth, the bytes left, how many have been passed -/
def comF : Nat → Int → Bs → Nat → Option Nat
  | 0, _, _, _ => none
  | f + 1, d, l, n =>
    if l = [] then none
    else if [123, 45].isPrefixOf l then (if d + 1 = 0 then some (n + 2) else comF f (d + 1) (l.drop 2) (n + 2))
    else if [45, 125].isPrefixOf l then (if d - 1 = 0 then some (n + 2) else comF f (d - 1) (l.drop 2) (n + 2))
    else (if d = 0 then some (n + 1) else comF f d (l.drop 1) (n + 1))
def comN (l : Bs) : Option Nat := comF (l.length + 1) 0 l 0
def comR (l : Bs) : Nat × Bool := match comN l with
  | some n => (n, true)
  | none => (0, false)
def gapR (l : Bs) : Nat × Bool := match l with
  | [] => (0, true)
  | c :: _ =>
    if c.toNat = 32 ∨ c.toNat = 9 ∨ c.toNat = 13 ∨ c.toNat = 10 then (1, true)
    else if c.toNat = 45 ∧ [45, 45].isPrefixOf l then (lineN l, true)
    else if c.toNat = 123 ∧ [123, 45].isPrefixOf l then comR l
    else (0, true)
def stepP (p : Int × Int) (c : UInt8) : Int × Int := if c.toNat = 10 then (p.1 + 1, 1) else (p.1, p.2 + 1)
def posA (p : Int × Int) (l : Bs) : Int × Int := l.foldl stepP p
/-- white space and comments passed: fuel, the bytes left, how many have been passed -/
def skF : Nat → Bs → Nat → Nat × Bool
  | 0, _, n => (n, true)
  | f + 1, l, n => if (gapR l).2 = false ∨ (gapR l).1 = 0 then (n, (gapR l).2) else skF f (l.drop (gapR l).1) (n + (gapR l).1)

theorem index_line (l : Bs) : (Lib.indexByte l 10 = -1 ∧ lineN l = l.length) ∨ (0 ≤ Lib.indexByte l 10 ∧ Lib.indexByte l 10 = lineN l) := by
  induction l with
  | nil => left; simp [Lib.indexByte, lineN]
  | cons c r ih =>
    by_cases hc : c = 10
    · right
      subst hc
      simp [Lib.indexByte, lineN]
    · have h1 : (c == 10) = false := beq_eq_false_iff_ne.2 hc
      have h2 : lineN (c :: r) = lineN r + 1 := by
        unfold lineN; rw [List.takeWhile_cons, if_pos (by simp [hc])]; rfl
      have h3 : Lib.indexByte (c :: r) 10 = if Lib.indexByte r 10 == -1 then -1 else Lib.indexByte r 10 + 1 := by
        rw [Lib.indexByte, h1]; rfl
      rw [h2, h3]
      rcases ih with ⟨a, b⟩ | ⟨a, b⟩
      · left; rw [a]; exact ⟨rfl, by simp [b]⟩
      · right
        have : (Lib.indexByte r 10 == -1) = false := beq_eq_false_iff_ne.2 (by omega)
        rw [this]
        simp only [Bool.false_eq_true, if_false]
        exact ⟨by omega, by omega⟩

theorem lineN_le (l : Bs) : lineN l ≤ l.length := (List.takeWhile_sublist _).length_le

theorem comF_le (f : Nat) : ∀ (d : Int) (l : Bs) (n m : Nat), comF f d l n = some m → n ≤ m ∧ m ≤ n + l.length := by
  induction f with
  | zero => intro d l n m h; simp [comF] at h
  | succ f ih =>
    intro d l n m h
    unfold comF at h
    have p2 : ∀ a b : UInt8, [a, b].isPrefixOf l = true → 2 ≤ l.length := by
      intro a b hp
      rw [List.isPrefixOf_iff_prefix] at hp
      have := hp.length_le
      simpa using this
    by_cases h0 : l = []
    · rw [if_pos h0] at h; cases h
    rw [if_neg h0] at h
    have hl : 1 ≤ l.length := by cases l with | nil => exact absurd rfl h0 | cons => simp
    by_cases h1 : [123, 45].isPrefixOf l = true
    · rw [if_pos h1] at h
      have := p2 _ _ h1
      by_cases h2 : d + 1 = 0
      · rw [if_pos h2] at h; injection h with h; omega
      · rw [if_neg h2] at h; have := ih _ _ _ _ h; rw [List.length_drop] at this; omega
    rw [if_neg h1] at h
    by_cases h3 : [45, 125].isPrefixOf l = true
    · rw [if_pos h3] at h
      have := p2 _ _ h3
      by_cases h2 : d - 1 = 0
      · rw [if_pos h2] at h; injection h with h; omega
      · rw [if_neg h2] at h; have := ih _ _ _ _ h; rw [List.length_drop] at this; omega
    rw [if_neg h3] at h
    by_cases h2 : d = 0
    · rw [if_pos h2] at h; injection h with h; omega
    · rw [if_neg h2] at h; have := ih _ _ _ _ h; rw [List.length_drop] at this; omega

theorem comR_le (l : Bs) : (comR l).1 ≤ l.length := by
  unfold comR
  split
  · rename_i n h; have := comF_le _ _ _ _ _ h; simp only; omega
  · simp

theorem gapR_le (l : Bs) : (gapR l).1 ≤ l.length := by
  have h1 := comR_le l
  have h2 := lineN_le l
  unfold gapR
  split
  · simp
  · split
    · simp
    · split
      · exact h2
      · split
        · exact h1
        · simp

theorem posA_append (p : Int × Int) (a b : Bs) : posA p (a ++ b) = posA (posA p a) b := List.foldl_append
theorem posA_bound (l : Bs) : ∀ (p : Int × Int), 0 ≤ p.1 → 0 ≤ p.2 → 0 ≤ (posA p l).1 ∧ (posA p l).1 ≤ p.1 + l.length ∧ 0 ≤ (posA p l).2 ∧ (posA p l).2 ≤ p.2 + 1 + l.length := by
  induction l with
  | nil => intro p h1 h2; simp [posA]; omega
  | cons c r ih =>
    intro p h1 h2
    have e : posA p (c :: r) = posA (stepP p c) r := rfl
    rw [e]
    have hs : 0 ≤ (stepP p c).1 ∧ (stepP p c).1 ≤ p.1 + 1 ∧ 0 ≤ (stepP p c).2 ∧ (stepP p c).2 ≤ p.2 + 1 := by
      unfold stepP; split <;> simp <;> omega
    have := ih (stepP p c) hs.1 hs.2.2.1
    simp only [List.length_cons]
    omega

end Go.Proofs.YtoogbgmneabfnaaDoor.M

namespace Go.Proofs.YtoogbgmneabfnaaDoor
open Go.RowKit M

theorem head_rest (s : ByteArray) (hp : 0 < s.size) : s.data.toList = s[0] :: rest s 1 := by rw [← rest_cons s 0 hp]; rfl
theorem rest_drop (s : ByteArray) (k n : Nat) : (rest s k).drop n = rest s (k + n) := by unfold rest; rw [List.drop_drop]
theorem ret_int {k : IntKind} {a b : Int} (h : a = b) : Ending.returned (.int k a) = .returned (.int k b) := by rw [h]

theorem comF_step (f : Nat) (d : Int) (l : Bs) (n : Nat) : comF (f + 1) d l n = if l = [] then none
    else if [123, 45].isPrefixOf l then (if d + 1 = 0 then some (n + 2) else comF f (d + 1) (l.drop 2) (n + 2))
    else if [45, 125].isPrefixOf l then (if d - 1 = 0 then some (n + 2) else comF f (d - 1) (l.drop 2) (n + 2))
    else (if d = 0 then some (n + 1) else comF f d (l.drop 1) (n + 1)) := rfl

theorem prefix2_le (s : ByteArray) (k : Nat) (a b : UInt8) (h : [a, b].isPrefixOf (rest s k) = true) : k + 2 ≤ s.size := by
  rw [List.isPrefixOf_iff_prefix] at h
  have := h.length_le
  rw [rest_length] at this
  simp at this
  omega

theorem cast_to (c : UInt8) (n : Nat) (h : c.toNat = n) : (c.toNat : Int) = n := by rw [h]

theorem only_set {a w : World} {g : Nat} (h : a.grownBy w (some g)) (o : Nat) (u : Value) : a.grownBy (w.setCell ⟨g, o, none⟩ u) (some g) :=
  ⟨h.os, h.tape, h.output, by simpa [World.setCell] using h.size, fun i hi hne => (Below.heap_setCell w _ u i (fun e => hne (by rw [e]))).trans (h.block i hi hne)⟩
theorem only_refl (a : World) (row : Option Nat) : a.grownBy a row := ⟨rfl, rfl, rfl, Nat.le_refl _, fun _ _ _ => rfl⟩
theorem only_trans {a b c : World} {row : Option Nat} (h : a.grownBy b row) (k : b.grownBy c row) : a.grownBy c row :=
  ⟨k.os.trans h.os, k.tape.trans h.tape, k.output.trans h.output, Nat.le_trans h.size k.size, fun i hi hne => (k.block i (Nat.lt_of_lt_of_le hi h.size) hne).trans (h.block i hi hne)⟩

theorem posA_take (p : Int × Int) (s : ByteArray) (k : Nat) (h : k < s.size) : posA p (s.data.toList.take (k + 1)) = stepP (posA p (s.data.toList.take k)) s[k] := by
  have e : s.data.toList.take (k + 1) = s.data.toList.take k ++ [s[k]] := by
    rw [List.take_succ_eq_append_getElem (by simpa using h)]; rfl
  rw [e, posA_append]; rfl

theorem skF_step (f : Nat) (l : Bs) (n : Nat) : skF (f + 1) l n = if (gapR l).2 = false ∨ (gapR l).1 = 0 then (n, (gapR l).2) else skF f (l.drop (gapR l).1) (n + (gapR l).1) := rfl

end Go.Proofs.YtoogbgmneabfnaaDoor
