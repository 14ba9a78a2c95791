/- The plain model of Scan: the tokens of a text, or its first error and where it is. No program in it. Tokens in memory, and laws on blocks and rows that a call owns. A block of strings, a row's cells, and what the reference's Symbols returns. No conditions. -/
import Derived.Test.YtoogbgmneabfnaaDoorG4
import Derived.Test.YtoogbgmneabfnaaDoorG2
import Derived.ChangeAlike
import Derived.RegionTactic
import Derived.KernelRfl
import Derived.Deep.QuietTactic
import Derived.BigQuiet
namespace Go.Proofs.YtoogbgmneabfnaaDoor.M
open Go

/-- a token: its item and its position -/
abbrev Tok := TR × (Int × Int)
def sk (l : Bs) : Nat × Bool := skF (l.length + 1) l 0
def itErr (t : TR) (n : Nat) : Int := if t.err = 0 ∧ n = 16384 then 10 else t.err
def scF : Nat → Bs → Int × Int → List Tok → List Tok × (Int × Int) × Int
  | 0, _, _, _ => ([], (0, 0), 0)
  | f + 1, l, p, ts =>
    if (sk l).2 = false then ([], posA p (l.take (sk l).1), 2)
    else if l.drop (sk l).1 = [] then (ts, (0, 0), 0)
    else if itErr (itemR (l.drop (sk l).1)) ts.length ≠ 0 then ([], posA p (l.take (sk l).1), itErr (itemR (l.drop (sk l).1)) ts.length)
    else scF f ((l.drop (sk l).1).drop (itemN (l.drop (sk l).1))) (posA (posA p (l.take (sk l).1)) ((l.drop (sk l).1).take (itemN (l.drop (sk l).1))))
      (ts ++ [(itemR (l.drop (sk l).1), posA p (l.take (sk l).1))])
def scan (l : Bs) : List Tok × (Int × Int) × Int := if 65536 < l.length then ([], (0, 0), 10) else scF (l.length + 1) l (1, 1) []

theorem scF_step (f : Nat) (l : Bs) (p : Int × Int) (ts : List Tok) : scF (f + 1) l p ts =
    if (sk l).2 = false then ([], posA p (l.take (sk l).1), 2)
    else if l.drop (sk l).1 = [] then (ts, (0, 0), 0)
    else if itErr (itemR (l.drop (sk l).1)) ts.length ≠ 0 then ([], posA p (l.take (sk l).1), itErr (itemR (l.drop (sk l).1)) ts.length)
    else scF f ((l.drop (sk l).1).drop (itemN (l.drop (sk l).1))) (posA (posA p (l.take (sk l).1)) ((l.drop (sk l).1).take (itemN (l.drop (sk l).1))))
      (ts ++ [(itemR (l.drop (sk l).1), posA p (l.take (sk l).1))]) := rfl

theorem skF_le (f : Nat) : ∀ (l : Bs) (n : Nat), n ≤ (skF f l n).1 ∧ (skF f l n).1 ≤ n + l.length := by
  induction f with
  | zero => intro l n; simp [skF]
  | succ f ih =>
    intro l n
    unfold skF
    by_cases h : (gapR l).2 = false ∨ (gapR l).1 = 0
    · rw [if_pos h]; simp
    · rw [if_neg h]
      have := ih (l.drop (gapR l).1) (n + (gapR l).1)
      have hg := gapR_le l
      rw [List.length_drop] at this
      omega
theorem sk_le (l : Bs) : (sk l).1 ≤ l.length := by have := (skF_le (l.length + 1) l 0).2; unfold sk; omega

theorem firstP_prefix (l : Bs) (ps : List Bs) : (firstP l ps).length ≤ l.length := by
  induction ps with
  | nil => simp [firstP]
  | cons p ps ih =>
    unfold firstP
    split
    · rename_i h
      exact (List.isPrefixOf_iff_prefix.1 h).length_le
    · exact ih
theorem symB_len (l : Bs) : (symB l).length ≤ l.length := by
  unfold symB
  split
  · simp
  · rename_i c r
    have hi : ∀ (p : Prop) [Decidable p] (a b : Bs), a.length ≤ (c :: r).length → b.length ≤ (c :: r).length → (if p then a else b).length ≤ (c :: r).length := by
      intro p _ a b ha hb; split <;> assumption
    unfold symOf
    refine hi _ _ _ (firstP_prefix _ _) (hi _ _ _ (firstP_prefix _ _) (hi _ _ _ (firstP_prefix _ _) (hi _ _ _ ?_ ?_)))
    · unfold parenP; exact hi _ _ _ (by simp) (firstP_prefix _ _)
    · iterate 11 refine hi _ _ _ (firstP_prefix _ _) ?_
      exact hi _ _ _ (by simp) (by simp)
theorem itemN_le (l : Bs) : itemN l ≤ l.length := by
  unfold itemN
  split
  · exact wordN_le l
  · exact symB_len l
theorem itemN_pos (l : Bs) (h : (itemR l).err = 0) : 0 < itemN l := by
  unfold itemR at h
  unfold itemN
  split
  · omega
  · rename_i h0
    rw [if_neg h0] at h
    by_cases hy : symB l = []
    · rw [if_neg (fun k => k hy)] at h; exact absurd h (by decide)
    · exact List.length_pos_iff.2 hy

end Go.Proofs.YtoogbgmneabfnaaDoor.M

namespace Go.Proofs.YtoogbgmneabfnaaDoor
open Go.RowKit M

def tokCells (t : Tok) : List Value := [.int .i64 t.1.kind, .int .i64 t.1.num, .string (S t.1.str), .int .i64 t.2.1, .int .i64 t.2.2]
def toksCells (ts : List Tok) : List Value := ts.flatMap tokCells
/-- what Scan leaves: a slice that is the call's own and reads as the tokens -/
def ScanPost (r : List Tok × (Int × Int) × Int) (w : World) (e : Ending) (w' : World) : Prop :=
  ∃ v, e = .returned (.tuple #[v, .agg #[.int .i64 r.2.1.1, .int .i64 r.2.1.2], .int .i64 r.2.2]) ∧ w'.ownsRow w.heap.size 37 5 v r.1.length (toksCells r.1) ∧ Below w.heap.size w w'

theorem posA_rest (p : Int × Int) (s : ByteArray) (a n : Nat) : posA (posA p (s.data.toList.take a)) ((rest s a).take n) = posA p (s.data.toList.take (a + n)) := by
  unfold rest; rw [← posA_append, List.take_add]

theorem below_drew {B : Nat} {a w : World} (h : Below B a w) : Below B a w.drew := ⟨h.os, h.tape, h.output, h.size, h.block⟩
theorem below_grown {B g : Nat} {a w w' : World} (h : Below B a w) (k : w.grownBy w' (some g)) (hg : B ≤ g) (hB : B ≤ a.heap.size) : Below B a w' :=
  ⟨k.os.trans h.os, k.tape.trans h.tape, k.output.trans h.output, Nat.le_trans h.size k.size, fun i hi => (k.block i (by have := h.size; omega) (by intro e; injection e; omega)).trans (h.block i hi)⟩
theorem owns_base {w : World} {b b' : Nat} {e : TypeId} {z : Nat} {v : Value} {n : Nat} {xs : List Value} (h : w.ownsRow b e z v n xs) (hb : b' ≤ b) : w.ownsRow b' e z v n xs := by
  obtain ⟨h1, h2⟩ := h
  refine ⟨h1, ?_⟩
  rcases h2 with h2 | ⟨g, cap, cur, a, c, d⟩
  · exact .inl h2
  · exact .inr ⟨g, cap, cur, a, by omega, d⟩
theorem owns_grown {w w' : World} {b g : Nat} {e : TypeId} {z : Nat} {v : Value} {n : Nat} {xs : List Value} (h : w.ownsRow b e z v n xs) (hg : w.grownBy w' (some g)) (hb : g < b) : w'.ownsRow b e z v n xs := by
  refine h.kept hg ?_
  cases ho : v.ownBlock with
  | none => exact .inl rfl
  | some k => refine .inr ?_; have := (h.lt k ho).1; intro e; injection e; omega

theorem owns_form {w : World} {b : Nat} {e : TypeId} {z : Nat} {v : Value} {n : Nat} {xs : List Value} (h : w.ownsRow b e z v n xs) : ∃ A c, v = .slice A n c := by
  rcases h.2 with ⟨rfl, rfl⟩ | ⟨g, cap, cur, rfl, _⟩
  · exact ⟨_, _, rfl⟩
  · exact ⟨_, _, rfl⟩

theorem token_info : (Tryd.prog.info? 37).map (fun i => (i.zero, i.size, i.bytes)) = some (some (.agg #[.int .i64 0, .int .i64 0, .string ⟨#[]⟩, .int .i64 0, .int .i64 0]), 5, 48) := by kernel_rfl
theorem owns_below {w w' : World} {b : Nat} {e : TypeId} {z : Nat} {v : Value} {n : Nat} {xs : List Value} (h : w.ownsRow b e z v n xs) (hb : Below w.heap.size w w') : w'.ownsRow b e z v n xs := by
  refine h.kept (row := none) ⟨hb.os, hb.tape, hb.output, hb.size, fun k hk _ => hb.block k hk⟩ ?_
  cases ho : v.ownBlock with
  | none => exact .inl rfl
  | some k => exact .inr (by simp)

theorem toks_snoc (ts : List Tok) (t : Tok) : toksCells ts ++ tokCells t = toksCells (ts ++ [t]) := by simp [toksCells]
theorem tok_cells (w : World) (t : Tok) (o : Obj) : ∀ (j : Nat) (u : Value), (tokCells t)[j]? = some u → ((w.alloc o).alloc (.cells #[.int .i64 t.1.kind, .int .i64 t.1.num, .string (S t.1.str), .int .i64 t.2.1, .int .i64 t.2.2] 37)).cell? ((⟨w.heap.size + 1, 0, none⟩ : Addr).add j) = some u := by
  intro j u hu
  have ha : (⟨w.heap.size + 1, 0, none⟩ : Addr).add j = ⟨w.heap.size + 1, j, none⟩ := by unfold Addr.add; split <;> simp_all
  have hn := heap_alloc_new (w.alloc o) (.cells #[.int .i64 t.1.kind, .int .i64 t.1.num, .string (S t.1.str), .int .i64 t.2.1, .int .i64 t.2.2] 37)
  have hs : (w.alloc o).heap.size = w.heap.size + 1 := by simp
  rw [hs] at hn
  rw [ha, cell_of_row _ _ j _ _ _ hn]
  simpa [tokCells] using hu

theorem lt_of_some {w : World} {b : Nat} {o : Obj} (h : w.heap[b]? = some o) : b < w.heap.size := by
  rcases Nat.lt_or_ge b w.heap.size with hlt | hge
  · exact hlt
  · rw [Array.getElem?_eq_none hge] at h; cases h

end Go.Proofs.YtoogbgmneabfnaaDoor

namespace Go.Proofs.YtoogbgmneabfnaaDoor
open Go.RowKit M

theorem owns_cell {w : World} {b : Nat} {e : TypeId} {z : Nat} {v : Value} {n : Nat} {xs : List Value} (h : w.ownsRow b e z v n xs) (hn : 0 < n) :
    ∃ g c, v = .slice (some ⟨g, 0, none⟩) n c ∧ b ≤ g ∧ g < w.heap.size ∧ n ≤ c ∧ ∀ j u, xs[j]? = some u → w.cell? ⟨g, j, none⟩ = some u := by
  rcases h.2 with ⟨_, rfl⟩ | ⟨g, cap, cur, rfl, hb, hh, hc, _⟩
  · omega
  · refine ⟨g, cap, rfl, hb, lt_of_some hh, hc, fun j u hu => ?_⟩
    have := h.cells (g := g) rfl j u hu
    have ha : (⟨g, 0, none⟩ : Addr).add j = ⟨g, j, none⟩ := by unfold Addr.add; split <;> simp_all
    rwa [ha] at this

/-- a block of strings -/
def strBlock (ls : List Bs) : Obj := .cells (ls.map fun p => Value.string (S p)).toArray 9 (0, 0)

set_option maxHeartbeats 400000 in
theorem symbols_ref (w : World) :
    Calls Tryd.prog 41 #[] w fun e w' => e = .returned (.slice (some ⟨w.heap.size, 0, none⟩) 59 59) ∧ w.alloc (strBlock symbolsL) = w' := by
  go_enter Tryd.func41, Tryd.ntmps41
  go_wp2
  go_ret
  exact ⟨rfl, rfl⟩

theorem str_cell {w : World} {b : Nat} {ls : List Bs} (h : w.heap[b]? = some (strBlock ls)) (k : Nat) (hk : k < ls.length) : w.cell? ⟨b, k, none⟩ = some (.string (S (ls.getD k []))) := by
  rw [cell_of_row w b k _ _ _ h]; simp [hk]

end Go.Proofs.YtoogbgmneabfnaaDoor
