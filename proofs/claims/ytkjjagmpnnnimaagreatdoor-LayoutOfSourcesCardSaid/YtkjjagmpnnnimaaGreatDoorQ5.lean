/- Tokens in memory, and laws on blocks and rows that a call owns. A block of strings, a row's cells, and what the reference's Symbols returns. No conditions. The plain model of the offside rule: Insert, Remove and Balanced on lists of tokens. No program in it. -/
import Derived.Test.YtkjjagmpnnnimaaGreatDoorQ3
import Derived.Test.YtkjjagmpnnnimaaGreatDoorQ4
import Derived.ChangeAlike
import Derived.RegionTactic
import Derived.KernelRfl
import Derived.Deep.QuietTactic
import Derived.BigQuiet
namespace Go.Proofs.YtkjjagmpnnnimaaGreatDoor
open Go.RowKit M

def tokCells (t : Tok) : List Value := [.int .i64 t.1.kind, .int .i64 t.1.num, .string (S t.1.str), .int .i64 t.2.1, .int .i64 t.2.2]
def toksCells (ts : List Tok) : List Value := ts.flatMap tokCells
/-- what Scan leaves: a slice that is the call's own and reads as the tokens -/
def ScanPost (r : List Tok × (Int × Int) × Int) (w : World) (e : Ending) (w' : World) : Prop :=
  ∃ v, e = .returned (.tuple #[v, .agg #[.int .i64 r.2.1.1, .int .i64 r.2.1.2], .int .i64 r.2.2]) ∧ w'.ownsRow w.heap.size 37 5 v r.1.length (toksCells r.1) ∧ Below w.heap.size w w'

theorem posA_rest (p : Int × Int) (s : ByteArray) (a n : Nat) : posA (posA p (s.data.toList.take a)) ((rest s a).take n) = posA p (s.data.toList.take (a + n)) := by
  unfold rest; rw [← posA_append, List.take_add]

theorem below_drew {B : Nat} {a w : World} (h : Below B a w) : Below B a w.drew := ⟨h.os, h.tape, h.output, h.size, h.block⟩
theorem below_grown {B g : Nat} {a w w' : World} (h : Below B a w) (k : w.grownBy w' (some g)) (hg : B ≤ g) (hB : B ≤ a.heap.size) : Below B a w' :=
  ⟨k.os.trans h.os, k.tape.trans h.tape, k.output.trans h.output, Nat.le_trans h.size k.size, fun i hi => (k.block i (by have := h.size; omega) (by intro e; injection e; omega)).trans (h.block i hi)⟩
theorem owns_base {w : World} {b b' : Nat} {e : TypeId} {z : Nat} {v : Value} {n : Nat} {xs : List Value} (h : w.ownsRow b e z v n xs) (hb : b' ≤ b) : w.ownsRow b' e z v n xs := by
  obtain ⟨h1, h2⟩ := h
  refine ⟨h1, ?_⟩
  rcases h2 with h2 | ⟨g, cap, cur, a, c, d⟩
  · exact .inl h2
  · exact .inr ⟨g, cap, cur, a, by omega, d⟩
theorem owns_grown {w w' : World} {b g : Nat} {e : TypeId} {z : Nat} {v : Value} {n : Nat} {xs : List Value} (h : w.ownsRow b e z v n xs) (hg : w.grownBy w' (some g)) (hb : g < b) : w'.ownsRow b e z v n xs := by
  refine h.kept hg ?_
  cases ho : v.ownBlock with
  | none => exact .inl rfl
  | some k => refine .inr ?_; have := (h.lt k ho).1; intro e; injection e; omega

theorem owns_form {w : World} {b : Nat} {e : TypeId} {z : Nat} {v : Value} {n : Nat} {xs : List Value} (h : w.ownsRow b e z v n xs) : ∃ A c, v = .slice A n c := by
  rcases h.2 with ⟨rfl, rfl⟩ | ⟨g, cap, cur, rfl, _⟩
  · exact ⟨_, _, rfl⟩
  · exact ⟨_, _, rfl⟩

theorem token_info : (Tryz.prog.info? 37).map (fun i => (i.zero, i.size, i.bytes)) = some (some (.agg #[.int .i64 0, .int .i64 0, .string ⟨#[]⟩, .int .i64 0, .int .i64 0]), 5, 48) := by kernel_rfl
theorem owns_below {w w' : World} {b : Nat} {e : TypeId} {z : Nat} {v : Value} {n : Nat} {xs : List Value} (h : w.ownsRow b e z v n xs) (hb : Below w.heap.size w w') : w'.ownsRow b e z v n xs := by
  refine h.kept (row := none) ⟨hb.os, hb.tape, hb.output, hb.size, fun k hk _ => hb.block k hk⟩ ?_
  cases ho : v.ownBlock with
  | none => exact .inl rfl
  | some k => exact .inr (by simp)

theorem toks_snoc (ts : List Tok) (t : Tok) : toksCells ts ++ tokCells t = toksCells (ts ++ [t]) := by simp [toksCells]
theorem tok_cells (w : World) (t : Tok) (o : Obj) : ∀ (j : Nat) (u : Value), (tokCells t)[j]? = some u → ((w.alloc o).alloc (.cells #[.int .i64 t.1.kind, .int .i64 t.1.num, .string (S t.1.str), .int .i64 t.2.1, .int .i64 t.2.2] 37)).cell? ((⟨w.heap.size + 1, 0, none⟩ : Addr).add j) = some u := by
  intro j u hu
  have ha : (⟨w.heap.size + 1, 0, none⟩ : Addr).add j = ⟨w.heap.size + 1, j, none⟩ := by unfold Addr.add; split <;> simp_all
  have hn := heap_alloc_new (w.alloc o) (.cells #[.int .i64 t.1.kind, .int .i64 t.1.num, .string (S t.1.str), .int .i64 t.2.1, .int .i64 t.2.2] 37)
  have hs : (w.alloc o).heap.size = w.heap.size + 1 := by simp
  rw [hs] at hn
  rw [ha, cell_of_row _ _ j _ _ _ hn]
  simpa [tokCells] using hu

theorem lt_of_some {w : World} {b : Nat} {o : Obj} (h : w.heap[b]? = some o) : b < w.heap.size := by
  rcases Nat.lt_or_ge b w.heap.size with hlt | hge
  · exact hlt
  · rw [Array.getElem?_eq_none hge] at h; cases h

end Go.Proofs.YtkjjagmpnnnimaaGreatDoor

namespace Go.Proofs.YtkjjagmpnnnimaaGreatDoor
open Go.RowKit M

theorem owns_cell {w : World} {b : Nat} {e : TypeId} {z : Nat} {v : Value} {n : Nat} {xs : List Value} (h : w.ownsRow b e z v n xs) (hn : 0 < n) :
    ∃ g c, v = .slice (some ⟨g, 0, none⟩) n c ∧ b ≤ g ∧ g < w.heap.size ∧ n ≤ c ∧ ∀ j u, xs[j]? = some u → w.cell? ⟨g, j, none⟩ = some u := by
  rcases h.2 with ⟨_, rfl⟩ | ⟨g, cap, cur, rfl, hb, hh, hc, _⟩
  · omega
  · refine ⟨g, cap, rfl, hb, lt_of_some hh, hc, fun j u hu => ?_⟩
    have := h.cells (g := g) rfl j u hu
    have ha : (⟨g, 0, none⟩ : Addr).add j = ⟨g, j, none⟩ := by unfold Addr.add; split <;> simp_all
    rwa [ha] at this

/-- a block of strings -/
def strBlock (ls : List Bs) : Obj := .cells (ls.map fun p => Value.string (S p)).toArray 9 (0, 0)

set_option maxHeartbeats 400000 in
theorem symbols_ref (w : World) :
    Calls Tryz.prog 55 #[] w fun e w' => e = .returned (.slice (some ⟨w.heap.size, 0, none⟩) 59 59) ∧ w.alloc (strBlock symbolsL) = w' := by
  go_enter Tryz.func55, Tryz.ntmps55
  go_wp2
  go_ret
  exact ⟨rfl, rfl⟩

theorem str_cell {w : World} {b : Nat} {ls : List Bs} (h : w.heap[b]? = some (strBlock ls)) (k : Nat) (hk : k < ls.length) : w.cell? ⟨b, k, none⟩ = some (.string (S (ls.getD k []))) := by
  rw [cell_of_row w b k _ _ _ h]; simp [hk]

end Go.Proofs.YtkjjagmpnnnimaaGreatDoor

namespace Go.Proofs.YtkjjagmpnnnimaaGreatDoor.M
open Go

/-- a token that Scan can return, apart from its position -/
def valT (t : TR) : Bool :=
  if t.kind = 2 then decide (0 ≤ t.num) && decide (t.str = [])
  else if t.kind = 1 ∨ t.kind = 3 ∨ t.kind = 4 then
    decide ((itemR t.str).err = 0) && (decide ((itemR t.str).kind = t.kind) && (decide ((itemR t.str).num = t.num) && decide ((itemR t.str).str = t.str)))
  else false
def kwLet : Bs := [108, 101, 116]
def kwWithin : Bs := [119, 105, 116, 104, 105, 110]
def kwExports : Bs := [101, 120, 112, 111, 114, 116, 115]
def kwEndmodule : Bs := [101, 110, 100, 109, 111, 100, 117, 108, 101]
def kwEndtimed : Bs := [101, 110, 100, 116, 105, 109, 101, 100]
def kwModule : Bs := [109, 111, 100, 117, 108, 101]
def kwTimed : Bs := [84, 105, 109, 101, 100]
/-- a keyword that ends a block -/
def closB (t : TR) : Bool := decide (t.kind = 3) && (decide (t.str = kwWithin) || decide (t.str = kwExports) || decide (t.str = kwEndmodule) || decide (t.str = kwEndtimed))
/-- a keyword whose block begins with the next token, with the next line -/
def itemK (t : TR) : Bool := decide (t.kind = 3) && (decide (t.str = kwLet) || decide (t.str = kwExports))
def lineK (t : TR) : Bool := decide (t.kind = 3) && (decide (t.str = kwModule) || decide (t.str = kwTimed))
def isAft (p q : Int × Int) : Bool := decide (1 ≤ p.1) && (decide (1 ≤ p.2) && (decide (q.1 < p.1) || (decide (p.1 = q.1) && decide (q.2 < p.2))))
/-- an inserted token -/
def mkT (k : Int) (p : Int × Int) : Tok := (⟨k, 0, [], 0⟩, p)

/-- the state: the tokens, the columns of the open blocks (the innermost first), the last position, the waiting keywords -/
structure LSt where
  out : List Tok
  cols : List Int
  last : Int × Int
  item : Int × Int
  line : Int × Int

/-- closing the blocks right of a column -/
def popC (c : Int) (p : Int × Int) : List Tok → List Int → List Tok × List Int
  | out, [] => (out, [])
  | out, x :: r => if c < x then popC c p (out ++ [mkT 7 p]) r else (out, x :: r)
/-- beginning a block -/
def begL (out : List Tok) (cols : List Int) (t : Tok) : Int × List Tok × List Int :=
  if closB t.1 = true then (0, out ++ [mkT 5 t.2, mkT 7 t.2], cols)
  else if t.2.2 ≤ cols.headD 0 then (3, out, cols)
  else if cols.length = 64 then (10, out, cols)
  else (0, out ++ [mkT 5 t.2], t.2.2 :: cols)
/-- what is closed by a line's first token -/
def popS (starts : Bool) (out : List Tok) (cols : List Int) (t : Tok) : List Tok × List Int := if starts = true then popC t.2.2 t.2 out cols else (out, cols)
/-- a token that begins no block, behind what its column has closed; open: how many blocks there were -/
def procE (n : Nat) (starts : Bool) (t : Tok) (r : List Tok × List Int) : List Tok × List Int :=
  if closB t.1 = true then (if r.2.length = n ∧ 1 < n then (r.1 ++ [mkT 7 t.2], r.2.tail) else r)
  else if starts = true ∧ t.2.2 = r.2.headD 0 then (r.1 ++ [mkT 6 t.2], r.2) else r
def procL (out : List Tok) (cols : List Int) (t : Tok) (starts : Bool) : List Tok × List Int := procE cols.length starts t (popS starts out cols t)
def finL (out : List Tok) (cols : List Int) (item line : Int × Int) (t : Tok) : LSt :=
  ⟨out ++ [t], cols, t.2, if itemK t.1 = true then t.2 else item, if lineK t.1 = true then t.2 else line⟩
def addL (s : LSt) (t : Tok) : Int × LSt :=
  if (valT t.1 && isAft t.2 s.last) = false then (1, s)
  else if s.last = (0, 0) then (if t.2.2 ≠ 1 then (3, s) else (0, finL s.out s.cols s.item s.line t))
  else if s.item ≠ (0, 0) then
    (if (begL s.out s.cols t).1 ≠ 0 then ((begL s.out s.cols t).1, s) else (0, finL (begL s.out s.cols t).2.1 (begL s.out s.cols t).2.2 (0, 0) s.line t))
  else if s.last.1 < t.2.1 ∧ s.line ≠ (0, 0) then
    (if (begL s.out s.cols t).1 ≠ 0 then ((begL s.out s.cols t).1, s) else (0, finL (begL s.out s.cols t).2.1 (begL s.out s.cols t).2.2 (0, 0) (0, 0) t))
  else (0, finL (procL s.out s.cols t (decide (s.last.1 < t.2.1))).1 (procL s.out s.cols t (decide (s.last.1 < t.2.1))).2 s.item s.line t)
/-- closing what is left -/
def endL (s : LSt) : List Tok × (Int × Int) × Int :=
  if s.line ≠ (0, 0) then ([], s.line, 3) else if s.item ≠ (0, 0) then ([], s.item, 3) else (s.out ++ List.replicate s.cols.length (mkT 7 (0, 0)), (0, 0), 0)
def insF : LSt → List Tok → List Tok × (Int × Int) × Int
  | s, [] => endL s
  | s, t :: r => if (addL s t).1 ≠ 0 then ([], t.2, (addL s t).1) else insF (addL s t).2 r
def startL : LSt := ⟨[mkT 5 (1, 1)], [1], (0, 0), (0, 0), (0, 0)⟩
def insL (l : List Tok) : List Tok × (Int × Int) × Int := insF startL l

theorem insF_cons (s : LSt) (t : Tok) (r : List Tok) : insF s (t :: r) = if (addL s t).1 ≠ 0 then ([], t.2, (addL s t).1) else insF (addL s t).2 r := rfl

/-- what holds of the state: the columns are positive, at least the program's block is open, and few tokens were made -/
structure LOk (k : Nat) (s : LSt) : Prop where
  cols : s.cols ≠ []
  base : s.cols.getLast? = some 1
  size : s.cols.length ≤ 64
  out : s.out.length + s.cols.length ≤ 4 * k + 2
  last : s.last = (0, 0) ↔ k = 0
  cpos : ∀ c ∈ s.cols, 1 ≤ c

theorem popC_ne (c : Int) (p : Int × Int) (hc : 1 ≤ c) : ∀ (cols : List Int) (out : List Tok), cols.getLast? = some 1 →
    (popC c p out cols).2.getLast? = some 1 ∧ (popC c p out cols).2.length ≤ cols.length ∧ (popC c p out cols).1.length + (popC c p out cols).2.length = out.length + cols.length ∧
      ∀ x ∈ (popC c p out cols).2, x ∈ cols := by
  intro cols
  induction cols with
  | nil => intro out h; simp at h
  | cons x r ih =>
    intro out h
    unfold popC
    by_cases hx : c < x
    · rw [if_pos hx]
      have hr : r.getLast? = some 1 := by
        cases r with
        | nil => simp at h; omega
        | cons y s => simpa using h
      obtain ⟨h1, h2, h3, h4⟩ := ih (out ++ [mkT 7 p]) hr
      refine ⟨h1, by simp; omega, ?_, fun y hy => List.mem_cons_of_mem _ (h4 y hy)⟩
      rw [h3]; simp; omega
    · rw [if_neg hx]
      exact ⟨h, Nat.le_refl _, rfl, fun y hy => hy⟩

def remL (l : List Tok) : List Tok := l.filter fun t => !(decide (5 ≤ t.1.kind) && decide (t.1.kind ≤ 7))
def balF : Nat → List Tok → Option Nat
  | d, [] => some d
  | d, t :: r => if t.1.kind = 5 then balF (d + 1) r else if t.1.kind = 7 then (if d = 0 then none else balF (d - 1) r) else balF d r
def balL (l : List Tok) : Bool := balF 0 l == some 0

theorem valT_kind {t : TR} (h : valT t = true) : 1 ≤ t.kind ∧ t.kind ≤ 4 := by
  unfold valT at h
  split at h
  · omega
  · split at h
    · omega
    · cases h
theorem balF_cons (d : Nat) (t : Tok) (r : List Tok) : balF d (t :: r) = if t.1.kind = 5 then balF (d + 1) r else if t.1.kind = 7 then (if d = 0 then none else balF (d - 1) r) else balF d r := rfl
theorem balF_append (a b : List Tok) : ∀ d, balF d (a ++ b) = (balF d a).bind fun e => balF e b := by
  induction a with
  | nil => intro d; rfl
  | cons t r ih =>
    intro d
    rw [List.cons_append, balF_cons, balF_cons]
    split
    · exact ih _
    · split
      · split
        · rfl
        · exact ih _
      · exact ih _
theorem balF_snoc {a : List Tok} {d e : Nat} (h : balF d a = some e) (b : List Tok) : balF d (a ++ b) = balF e b := by
  rw [balF_append, h]; rfl
theorem remL_append (a b : List Tok) : remL (a ++ b) = remL a ++ remL b := by simp [remL]
theorem remL_mk (k : Int) (p : Int × Int) (h1 : 5 ≤ k) (h2 : k ≤ 7) : remL [mkT k p] = [] := by simp [remL, mkT, h1, h2]
theorem remL_val {t : Tok} (h : valT t.1 = true) : remL [t] = [t] := by
  have := valT_kind h
  simp [remL]; omega
theorem bal_val {t : Tok} (h : valT t.1 = true) (d : Nat) : balF d [t] = some d := by
  have := valT_kind h
  simp [balF]
  rw [if_neg (by omega), if_neg (by omega)]

theorem popC_rem (c : Int) (p : Int × Int) : ∀ (cols : List Int) (out : List Tok), balF 0 out = some cols.length →
    remL (popC c p out cols).1 = remL out ∧ balF 0 (popC c p out cols).1 = some (popC c p out cols).2.length := by
  intro cols
  induction cols with
  | nil => intro out h; exact ⟨rfl, h⟩
  | cons x r ih =>
    intro out h
    unfold popC
    by_cases hx : c < x
    · rw [if_pos hx]
      have hb : balF 0 (out ++ [mkT 7 p]) = some r.length := by
        rw [balF_snoc h]; simp [balF, mkT]
      obtain ⟨h1, h2⟩ := ih _ hb
      refine ⟨?_, h2⟩
      rw [h1, remL_append, remL_mk 7 p (by decide) (by decide), List.append_nil]
    · rw [if_neg hx]
      exact ⟨rfl, h⟩

/-- what the result says of the tokens so far -/
def Kept (s : LSt) (l : List Tok) : Prop := remL s.out = l ∧ balF 0 s.out = some s.cols.length

theorem fin_kept {out : List Tok} {cols : List Int} {l : List Tok} (t : Tok) (hv : valT t.1 = true) (item line : Int × Int) (h : remL out = l ∧ balF 0 out = some cols.length) :
    Kept (finL out cols item line t) (l ++ [t]) := by
  refine ⟨?_, ?_⟩
  · show remL (out ++ [t]) = _
    rw [remL_append, h.1, remL_val hv]
  · show balF 0 (out ++ [t]) = some cols.length
    rw [balF_snoc h.2, bal_val hv]
theorem beg_kept {out : List Tok} {cols : List Int} {l : List Tok} (t : Tok) (h : remL out = l ∧ balF 0 out = some cols.length) (h0 : (begL out cols t).1 = 0) :
    remL (begL out cols t).2.1 = l ∧ balF 0 (begL out cols t).2.1 = some (begL out cols t).2.2.length := by
  unfold begL at h0 ⊢
  split
  · refine ⟨?_, ?_⟩
    · simp only
      rw [show [mkT 5 t.2, mkT 7 t.2] = [mkT 5 t.2] ++ [mkT 7 t.2] from rfl, remL_append, remL_append, remL_mk 5 _ (by decide) (by decide), remL_mk 7 _ (by decide) (by decide), h.1]; simp
    · simp only
      rw [balF_snoc h.2]; simp [balF, mkT]
  · rename_i hc
    rw [if_neg hc] at h0
    split
    · rename_i h2; rw [if_pos h2] at h0; simp at h0
    · rename_i h2
      rw [if_neg h2] at h0
      split
      · rename_i h3; rw [if_pos h3] at h0; simp at h0
      · refine ⟨?_, ?_⟩
        · simp only
          rw [remL_append, remL_mk 5 _ (by decide) (by decide), h.1, List.append_nil]
        · simp only
          rw [balF_snoc h.2]; simp [balF, mkT]
theorem proc_kept {out : List Tok} {cols : List Int} {l : List Tok} (t : Tok) (starts : Bool) (h : remL out = l ∧ balF 0 out = some cols.length) :
    remL (procL out cols t starts).1 = l ∧ balF 0 (procL out cols t starts).1 = some (procL out cols t starts).2.length := by
  have hp : remL (popS starts out cols t).1 = l ∧ balF 0 (popS starts out cols t).1 = some (popS starts out cols t).2.length := by
    unfold popS
    split
    · obtain ⟨h1, h2⟩ := popC_rem t.2.2 t.2 cols out h.2
      exact ⟨h1.trans h.1, h2⟩
    · exact h
  unfold procL
  generalize popS starts out cols t = r at *
  unfold procE
  split
  · split
    · rename_i h1
      refine ⟨?_, ?_⟩
      · simp only
        rw [remL_append, remL_mk 7 _ (by decide) (by decide), hp.1, List.append_nil]
      · simp only
        rw [balF_snoc hp.2]
        have : r.2.length ≠ 0 := by omega
        simp [balF, mkT, this]
    · exact hp
  · split
    · refine ⟨?_, ?_⟩
      · simp only
        rw [remL_append, remL_mk 6 _ (by decide) (by decide), hp.1, List.append_nil]
      · simp only
        rw [balF_snoc hp.2]; simp [balF, mkT]
    · exact hp
theorem add_kept {s : LSt} {l : List Tok} (t : Tok) (h : Kept s l) (h0 : (addL s t).1 = 0) : Kept (addL s t).2 (l ++ [t]) := by
  unfold addL at h0 ⊢
  by_cases h1 : (valT t.1 && isAft t.2 s.last) = false
  · rw [if_pos h1] at h0; simp at h0
  have hv : valT t.1 = true := by
    cases hv : valT t.1
    · rw [hv] at h1; exact absurd rfl h1
    · rfl
  rw [if_neg h1] at h0 ⊢
  by_cases h2 : s.last = (0, 0)
  · rw [if_pos h2] at h0 ⊢
    by_cases h3 : t.2.2 ≠ 1
    · rw [if_pos h3] at h0; simp at h0
    · rw [if_neg h3]; exact fin_kept t hv _ _ h
  rw [if_neg h2] at h0 ⊢
  by_cases h3 : s.item ≠ (0, 0)
  · rw [if_pos h3] at h0 ⊢
    by_cases h4 : (begL s.out s.cols t).1 ≠ 0
    · rw [if_pos h4] at h0; exact absurd h0 h4
    · rw [if_neg h4]
      exact fin_kept t hv _ _ (beg_kept t h (Classical.byContradiction h4))
  rw [if_neg h3] at h0 ⊢
  by_cases h5 : s.last.1 < t.2.1 ∧ s.line ≠ (0, 0)
  · rw [if_pos h5] at h0 ⊢
    by_cases h4 : (begL s.out s.cols t).1 ≠ 0
    · rw [if_pos h4] at h0; exact absurd h0 h4
    · rw [if_neg h4]
      exact fin_kept t hv _ _ (beg_kept t h (Classical.byContradiction h4))
  rw [if_neg h5]
  exact fin_kept t hv _ _ (proc_kept t _ h)

theorem rem_rep (n : Nat) (p : Int × Int) : remL (List.replicate n (mkT 7 p)) = [] := by
  induction n with
  | zero => rfl
  | succ n ih => rw [List.replicate_succ, show mkT 7 p :: List.replicate n (mkT 7 p) = [mkT 7 p] ++ List.replicate n (mkT 7 p) from rfl, remL_append, ih, remL_mk 7 _ (by decide) (by decide)]; rfl
theorem bal_rep (n : Nat) (p : Int × Int) : balF n (List.replicate n (mkT 7 p)) = some 0 := by
  induction n with
  | zero => rfl
  | succ n ih => rw [List.replicate_succ]; unfold balF; simpa [mkT] using ih

theorem insF_kept : ∀ (l : List Tok) (s : LSt) (k : List Tok), Kept s k → (insF s l).2.2 = 0 → remL (insF s l).1 = k ++ l ∧ balL (insF s l).1 = true := by
  intro l
  induction l with
  | nil =>
    intro s k h h0
    unfold insF endL at h0 ⊢
    by_cases h1 : s.line ≠ (0, 0)
    · rw [if_pos h1] at h0; simp at h0
    rw [if_neg h1] at h0 ⊢
    by_cases h2 : s.item ≠ (0, 0)
    · rw [if_pos h2] at h0; simp at h0
    rw [if_neg h2]
    refine ⟨?_, ?_⟩
    · simp only
      rw [remL_append, h.1, rem_rep]
    · simp only [balL]
      rw [balF_snoc h.2, bal_rep]; rfl
  | cons t r ih =>
    intro s k h h0
    rw [insF_cons] at h0 ⊢
    by_cases h1 : (addL s t).1 ≠ 0
    · rw [if_pos h1] at h0; exact absurd h0 h1
    · rw [if_neg h1] at h0 ⊢
      have := ih _ _ (add_kept t h (Classical.byContradiction h1)) h0
      simpa using this
theorem ins_removes (l : List Tok) (h : (insL l).2.2 = 0) : remL (insL l).1 = l ∧ balL (insL l).1 = true :=
  insF_kept l startL [] ⟨by decide, by decide⟩ h
theorem insF_err : ∀ (l : List Tok) (s : LSt), (insF s l).2.2 ≠ 0 → (insF s l).1 = [] := by
  intro l
  induction l with
  | nil =>
    intro s h0
    unfold insF endL at h0 ⊢
    by_cases h1 : s.line ≠ (0, 0)
    · rw [if_pos h1]
    rw [if_neg h1] at h0 ⊢
    by_cases h2 : s.item ≠ (0, 0)
    · rw [if_pos h2]
    rw [if_neg h2] at h0
    exact absurd rfl h0
  | cons t r ih =>
    intro s h0
    rw [insF_cons] at h0 ⊢
    by_cases h1 : (addL s t).1 ≠ 0
    · rw [if_pos h1]
    · rw [if_neg h1] at h0 ⊢
      exact ih _ h0

end Go.Proofs.YtkjjagmpnnnimaaGreatDoor.M
