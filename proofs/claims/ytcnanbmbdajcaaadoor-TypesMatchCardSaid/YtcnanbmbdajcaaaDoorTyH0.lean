/- Substitutions: lists of bindings in memory, and their model's steps. No conditions. -/
import Derived.Test.YtcnanbmbdajcaaaDoorTyB
import Derived.Test.YtcnanbmbdajcaaaDoorTyD
import Derived.Test.YtcnanbmbdajcaaaDoorMapI
namespace Go.Proofs.YtcnanbmbdajcaaaDoor
open Go.RowKit M

/-- a binding in memory: its variable, its type -/
abbrev BS := Int × TS
def bdCells (b : BS) : List Value := [.int .i64 b.1, tsV b.2]
theorem bd_len (b : BS) : (bdCells b).length = 2 := rfl
abbrev mb (b : BS) : Bd := (b.1, b.2.2.2)
/-- a slice that reads as bindings -/
def InB (w : World) (A : Option Addr) (bs : List BS) : Prop :=
  InC w A (bs.flatMap bdCells) ∧ ∀ b ∈ bs, InC w b.2.1 (b.2.2.2.flatMap ndCells) ∧ b.2.2.2.length ≤ maxLen ∧ b.2.2.2.length ≤ b.2.2.1
theorem InB.below {w w' : World} {A : Option Addr} {bs : List BS} (h : InB w A bs) (hb : Below w.heap.size w w') : InB w' A bs :=
  ⟨h.1.below hb, fun b q => ⟨(h.2 b q).1.below hb, (h.2 b q).2⟩⟩
theorem InB.at_ {w : World} {A : Option Addr} {bs : List BS} (h : InB w A bs) {i : Nat} {b : BS} (hi : bs[i]? = some b) :
    ∃ k off, A = some ⟨k, off, none⟩ ∧ k < w.heap.size ∧ w.cell? ⟨k, off + i * 2, none⟩ = some (.int .i64 b.1) ∧ w.cell? ⟨k, off + i * 2 + 1, none⟩ = some (tsV b.2) := by
  obtain ⟨k, off, e, hk, hc⟩ := h.1.elem bd_len hi (by decide)
  exact ⟨k, off, e, hk, by have := hc 0 _ rfl; simpa using this, hc 1 _ rfl⟩
/-- all variables before place i are at most the last of them -/
def LeLast (bs : List BS) (i : Nat) : Prop := ∀ b ∈ bs.take i, ∀ q, bs[i - 1]? = some q → b.1 ≤ q.1
theorem LeLast.zero (bs : List BS) : LeLast bs 0 := fun b hb => by simp at hb
theorem LeLast.step {bs : List BS} {i : Nat} {b : BS} (h : LeLast bs i) (hb : bs[i]? = some b) (ha : ∀ q, 0 < i → bs[i - 1]? = some q → q.1 < b.1) : LeLast bs (i + 1) := by
  intro x hx q hq
  rw [Nat.add_sub_cancel, hb] at hq
  cases hq
  rw [List.take_add_one, hb] at hx
  rcases List.mem_append.1 hx with hx | hx
  · rcases Nat.eq_zero_or_pos i with h0 | h0
    · subst h0; simp at hx
    · have hlt : i - 1 < bs.length := by have := (List.getElem?_eq_some_iff.1 hb).1; omega
      obtain ⟨y, hy⟩ : ∃ y, bs[i - 1]? = some y := ⟨bs[i - 1], List.getElem?_eq_getElem hlt⟩
      have := h x hx y hy
      have := ha y h0 hy
      omega
  · simp at hx; subst hx; exact Int.le_refl _
theorem fresh_key {bs : List BS} {i : Nat} {b : BS} (h : LeLast bs i) (hb : bs[i]? = some b) (ha : ∀ q, 0 < i → bs[i - 1]? = some q → q.1 < b.1) :
    ((bs.take i).map fun b => (b.1, tsV b.2)).find? (fun p => decide (p.1 = b.1)) = none := by
  rw [List.find?_eq_none]
  intro p hp
  obtain ⟨x, hx, rfl⟩ := List.mem_map.1 hp
  rcases Nat.eq_zero_or_pos i with h0 | h0
  · subst h0; simp at hx
  · have hlt : i - 1 < bs.length := by have := (List.getElem?_eq_some_iff.1 hb).1; omega
    obtain ⟨y, hy⟩ : ∃ y, bs[i - 1]? = some y := ⟨bs[i - 1], List.getElem?_eq_getElem hlt⟩
    have := h x hx y hy
    have := ha y h0 hy
    simp only [decide_eq_true_eq]
    omega
/-- the variable before place i -/
def prevV (bs : List BS) (i : Nat) : Option Int := if i = 0 then none else (bs[i - 1]?).map (·.1)
theorem prevV_succ {bs : List BS} {i : Nat} {b : BS} (hb : bs[i]? = some b) : prevV bs (i + 1) = some b.1 := by
  unfold prevV; rw [if_neg (by omega), Nat.add_sub_cancel, hb]; rfl
theorem subF_ok {bs : List BS} {i : Nat} {b : BS} (hb : bs[i]? = some b) (ha : ∀ q, 0 < i → bs[i - 1]? = some q → q.1 < b.1) (hv : valT b.2.2.2 = true) :
    subF (prevV bs i) ((bs.drop i).map mb) = subF (prevV bs (i + 1)) ((bs.drop (i + 1)).map mb) := by
  obtain ⟨h1, h2⟩ := List.getElem?_eq_some_iff.1 hb
  rw [List.drop_eq_getElem_cons h1, h2, prevV_succ hb, List.map_cons]
  conv => lhs; unfold subF
  rw [show valT (mb b).2 = true from hv]
  unfold prevV
  rcases Nat.eq_zero_or_pos i with h0 | h0
  · rw [if_pos h0]; simp
  · rw [if_neg (by omega)]
    have hlt : i - 1 < bs.length := by omega
    have hy : bs[i - 1]? = some bs[i - 1] := List.getElem?_eq_getElem hlt
    have hq : bs[i - 1].1 < b.1 := ha _ h0 hy
    rw [hy]
    show (decide (bs[i - 1].1 < b.1) && _) = _
    rw [decide_eq_true hq]
    simp
theorem subF_bad {bs : List BS} {i : Nat} {b : BS} (hb : bs[i]? = some b) (h : (∃ q, 0 < i ∧ bs[i - 1]? = some q ∧ b.1 ≤ q.1) ∨ valT b.2.2.2 = false) :
    subF (prevV bs i) ((bs.drop i).map mb) = false := by
  obtain ⟨h1, h2⟩ := List.getElem?_eq_some_iff.1 hb
  rw [List.drop_eq_getElem_cons h1, h2, List.map_cons]
  conv => lhs; unfold subF
  rcases h with ⟨q, h0, hq, hle⟩ | hv
  · unfold prevV
    rw [if_neg (by omega), hq]
    show (decide (q.1 < b.1) && _) = _
    rw [decide_eq_false (by omega)]
    rfl
  · rw [show valT (mb b).2 = false from hv]; simp

end Go.Proofs.YtcnanbmbdajcaaaDoor
