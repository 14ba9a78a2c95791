/- The plain model of the offside rule: Insert, Remove and Balanced on lists of tokens. No program in it. Words for a state in memory: what a call keeps, and which blocks are the state's own. No conditions. -/
import Derived.Test.YtoogbgmneabfnaaDoorG5
namespace Go.Proofs.YtoogbgmneabfnaaDoor.M
open Go

/-- a token that Scan can return, apart from its position -/
def valT (t : TR) : Bool :=
  if t.kind = 2 then decide (0 ≤ t.num) && decide (t.str = [])
  else if t.kind = 1 ∨ t.kind = 3 ∨ t.kind = 4 then
    decide ((itemR t.str).err = 0) && (decide ((itemR t.str).kind = t.kind) && (decide ((itemR t.str).num = t.num) && decide ((itemR t.str).str = t.str)))
  else false
def kwLet : Bs := [108, 101, 116]
def kwWithin : Bs := [119, 105, 116, 104, 105, 110]
def kwExports : Bs := [101, 120, 112, 111, 114, 116, 115]
def kwEndmodule : Bs := [101, 110, 100, 109, 111, 100, 117, 108, 101]
def kwEndtimed : Bs := [101, 110, 100, 116, 105, 109, 101, 100]
def kwModule : Bs := [109, 111, 100, 117, 108, 101]
def kwTimed : Bs := [84, 105, 109, 101, 100]
/-- a keyword that ends a block -/
def closB (t : TR) : Bool := decide (t.kind = 3) && (decide (t.str = kwWithin) || decide (t.str = kwExports) || decide (t.str = kwEndmodule) || decide (t.str = kwEndtimed))
/-- a keyword whose block begins with the next token, with the next line -/
def itemK (t : TR) : Bool := decide (t.kind = 3) && (decide (t.str = kwLet) || decide (t.str = kwExports))
def lineK (t : TR) : Bool := decide (t.kind = 3) && (decide (t.str = kwModule) || decide (t.str = kwTimed))
def isAft (p q : Int × Int) : Bool := decide (1 ≤ p.1) && (decide (1 ≤ p.2) && (decide (q.1 < p.1) || (decide (p.1 = q.1) && decide (q.2 < p.2))))
/-- an inserted token -/
def mkT (k : Int) (p : Int × Int) : Tok := (⟨k, 0, [], 0⟩, p)

/-- the state: the tokens, the columns of the open blocks (the innermost first), the last position, the waiting keywords -/
structure LSt where
  out : List Tok
  cols : List Int
  last : Int × Int
  item : Int × Int
  line : Int × Int

/-- closing the blocks right of a column -/
def popC (c : Int) (p : Int × Int) : List Tok → List Int → List Tok × List Int
  | out, [] => (out, [])
  | out, x :: r => if c < x then popC c p (out ++ [mkT 7 p]) r else (out, x :: r)
/-- beginning a block -/
def begL (out : List Tok) (cols : List Int) (t : Tok) : Int × List Tok × List Int :=
  if closB t.1 = true then (0, out ++ [mkT 5 t.2, mkT 7 t.2], cols)
  else if t.2.2 ≤ cols.headD 0 then (3, out, cols)
  else if cols.length = 64 then (10, out, cols)
  else (0, out ++ [mkT 5 t.2], t.2.2 :: cols)
/-- what is closed by a line's first token -/
def popS (starts : Bool) (out : List Tok) (cols : List Int) (t : Tok) : List Tok × List Int := if starts = true then popC t.2.2 t.2 out cols else (out, cols)
/-- a token that begins no block, behind what its column has closed; open: how many blocks there were -/
def procE (n : Nat) (starts : Bool) (t : Tok) (r : List Tok × List Int) : List Tok × List Int :=
  if closB t.1 = true then (if r.2.length = n ∧ 1 < n then (r.1 ++ [mkT 7 t.2], r.2.tail) else r)
  else if starts = true ∧ t.2.2 = r.2.headD 0 then (r.1 ++ [mkT 6 t.2], r.2) else r
def procL (out : List Tok) (cols : List Int) (t : Tok) (starts : Bool) : List Tok × List Int := procE cols.length starts t (popS starts out cols t)
def finL (out : List Tok) (cols : List Int) (item line : Int × Int) (t : Tok) : LSt :=
  ⟨out ++ [t], cols, t.2, if itemK t.1 = true then t.2 else item, if lineK t.1 = true then t.2 else line⟩
def addL (s : LSt) (t : Tok) : Int × LSt :=
  if (valT t.1 && isAft t.2 s.last) = false then (1, s)
  else if s.last = (0, 0) then (if t.2.2 ≠ 1 then (3, s) else (0, finL s.out s.cols s.item s.line t))
  else if s.item ≠ (0, 0) then
    (if (begL s.out s.cols t).1 ≠ 0 then ((begL s.out s.cols t).1, s) else (0, finL (begL s.out s.cols t).2.1 (begL s.out s.cols t).2.2 (0, 0) s.line t))
  else if s.last.1 < t.2.1 ∧ s.line ≠ (0, 0) then
    (if (begL s.out s.cols t).1 ≠ 0 then ((begL s.out s.cols t).1, s) else (0, finL (begL s.out s.cols t).2.1 (begL s.out s.cols t).2.2 (0, 0) (0, 0) t))
  else (0, finL (procL s.out s.cols t (decide (s.last.1 < t.2.1))).1 (procL s.out s.cols t (decide (s.last.1 < t.2.1))).2 s.item s.line t)
/-- closing what is left -/
def endL (s : LSt) : List Tok × (Int × Int) × Int :=
  if s.line ≠ (0, 0) then ([], s.line, 3) else if s.item ≠ (0, 0) then ([], s.item, 3) else (s.out ++ List.replicate s.cols.length (mkT 7 (0, 0)), (0, 0), 0)
def insF : LSt → List Tok → List Tok × (Int × Int) × Int
  | s, [] => endL s
  | s, t :: r => if (addL s t).1 ≠ 0 then ([], t.2, (addL s t).1) else insF (addL s t).2 r
def startL : LSt := ⟨[mkT 5 (1, 1)], [1], (0, 0), (0, 0), (0, 0)⟩
def insL (l : List Tok) : List Tok × (Int × Int) × Int := insF startL l

theorem insF_cons (s : LSt) (t : Tok) (r : List Tok) : insF s (t :: r) = if (addL s t).1 ≠ 0 then ([], t.2, (addL s t).1) else insF (addL s t).2 r := rfl

/-- what holds of the state: the columns are positive, at least the program's block is open, and few tokens were made -/
structure LOk (k : Nat) (s : LSt) : Prop where
  cols : s.cols ≠ []
  base : s.cols.getLast? = some 1
  size : s.cols.length ≤ 64
  out : s.out.length + s.cols.length ≤ 4 * k + 2
  last : s.last = (0, 0) ↔ k = 0
  cpos : ∀ c ∈ s.cols, 1 ≤ c

theorem popC_ne (c : Int) (p : Int × Int) (hc : 1 ≤ c) : ∀ (cols : List Int) (out : List Tok), cols.getLast? = some 1 →
    (popC c p out cols).2.getLast? = some 1 ∧ (popC c p out cols).2.length ≤ cols.length ∧ (popC c p out cols).1.length + (popC c p out cols).2.length = out.length + cols.length ∧
      ∀ x ∈ (popC c p out cols).2, x ∈ cols := by
  intro cols
  induction cols with
  | nil => intro out h; simp at h
  | cons x r ih =>
    intro out h
    unfold popC
    by_cases hx : c < x
    · rw [if_pos hx]
      have hr : r.getLast? = some 1 := by
        cases r with
        | nil => simp at h; omega
        | cons y s => simpa using h
      obtain ⟨h1, h2, h3, h4⟩ := ih (out ++ [mkT 7 p]) hr
      refine ⟨h1, by simp; omega, ?_, fun y hy => List.mem_cons_of_mem _ (h4 y hy)⟩
      rw [h3]; simp; omega
    · rw [if_neg hx]
      exact ⟨h, Nat.le_refl _, rfl, fun y hy => hy⟩

def remL (l : List Tok) : List Tok := l.filter fun t => !(decide (5 ≤ t.1.kind) && decide (t.1.kind ≤ 7))
def balF : Nat → List Tok → Option Nat
  | d, [] => some d
  | d, t :: r => if t.1.kind = 5 then balF (d + 1) r else if t.1.kind = 7 then (if d = 0 then none else balF (d - 1) r) else balF d r
def balL (l : List Tok) : Bool := balF 0 l == some 0

theorem valT_kind {t : TR} (h : valT t = true) : 1 ≤ t.kind ∧ t.kind ≤ 4 := by
  unfold valT at h
  split at h
  · omega
  · split at h
    · omega
    · cases h
theorem balF_cons (d : Nat) (t : Tok) (r : List Tok) : balF d (t :: r) = if t.1.kind = 5 then balF (d + 1) r else if t.1.kind = 7 then (if d = 0 then none else balF (d - 1) r) else balF d r := rfl
theorem balF_append (a b : List Tok) : ∀ d, balF d (a ++ b) = (balF d a).bind fun e => balF e b := by
  induction a with
  | nil => intro d; rfl
  | cons t r ih =>
    intro d
    rw [List.cons_append, balF_cons, balF_cons]
    split
    · exact ih _
    · split
      · split
        · rfl
        · exact ih _
      · exact ih _
theorem balF_snoc {a : List Tok} {d e : Nat} (h : balF d a = some e) (b : List Tok) : balF d (a ++ b) = balF e b := by
  rw [balF_append, h]; rfl
theorem remL_append (a b : List Tok) : remL (a ++ b) = remL a ++ remL b := by simp [remL]
theorem remL_mk (k : Int) (p : Int × Int) (h1 : 5 ≤ k) (h2 : k ≤ 7) : remL [mkT k p] = [] := by simp [remL, mkT, h1, h2]
theorem remL_val {t : Tok} (h : valT t.1 = true) : remL [t] = [t] := by
  have := valT_kind h
  simp [remL]; omega
theorem bal_val {t : Tok} (h : valT t.1 = true) (d : Nat) : balF d [t] = some d := by
  have := valT_kind h
  simp [balF]
  rw [if_neg (by omega), if_neg (by omega)]

theorem popC_rem (c : Int) (p : Int × Int) : ∀ (cols : List Int) (out : List Tok), balF 0 out = some cols.length →
    remL (popC c p out cols).1 = remL out ∧ balF 0 (popC c p out cols).1 = some (popC c p out cols).2.length := by
  intro cols
  induction cols with
  | nil => intro out h; exact ⟨rfl, h⟩
  | cons x r ih =>
    intro out h
    unfold popC
    by_cases hx : c < x
    · rw [if_pos hx]
      have hb : balF 0 (out ++ [mkT 7 p]) = some r.length := by
        rw [balF_snoc h]; simp [balF, mkT]
      obtain ⟨h1, h2⟩ := ih _ hb
      refine ⟨?_, h2⟩
      rw [h1, remL_append, remL_mk 7 p (by decide) (by decide), List.append_nil]
    · rw [if_neg hx]
      exact ⟨rfl, h⟩

/-- what the result says of the tokens so far -/
def Kept (s : LSt) (l : List Tok) : Prop := remL s.out = l ∧ balF 0 s.out = some s.cols.length

theorem fin_kept {out : List Tok} {cols : List Int} {l : List Tok} (t : Tok) (hv : valT t.1 = true) (item line : Int × Int) (h : remL out = l ∧ balF 0 out = some cols.length) :
    Kept (finL out cols item line t) (l ++ [t]) := by
  refine ⟨?_, ?_⟩
  · show remL (out ++ [t]) = _
    rw [remL_append, h.1, remL_val hv]
  · show balF 0 (out ++ [t]) = some cols.length
    rw [balF_snoc h.2, bal_val hv]
theorem beg_kept {out : List Tok} {cols : List Int} {l : List Tok} (t : Tok) (h : remL out = l ∧ balF 0 out = some cols.length) (h0 : (begL out cols t).1 = 0) :
    remL (begL out cols t).2.1 = l ∧ balF 0 (begL out cols t).2.1 = some (begL out cols t).2.2.length := by
  unfold begL at h0 ⊢
  split
  · refine ⟨?_, ?_⟩
    · simp only
      rw [show [mkT 5 t.2, mkT 7 t.2] = [mkT 5 t.2] ++ [mkT 7 t.2] from rfl, remL_append, remL_append, remL_mk 5 _ (by decide) (by decide), remL_mk 7 _ (by decide) (by decide), h.1]; simp
    · simp only
      rw [balF_snoc h.2]; simp [balF, mkT]
  · rename_i hc
    rw [if_neg hc] at h0
    split
    · rename_i h2; rw [if_pos h2] at h0; simp at h0
    · rename_i h2
      rw [if_neg h2] at h0
      split
      · rename_i h3; rw [if_pos h3] at h0; simp at h0
      · refine ⟨?_, ?_⟩
        · simp only
          rw [remL_append, remL_mk 5 _ (by decide) (by decide), h.1, List.append_nil]
        · simp only
          rw [balF_snoc h.2]; simp [balF, mkT]
theorem proc_kept {out : List Tok} {cols : List Int} {l : List Tok} (t : Tok) (starts : Bool) (h : remL out = l ∧ balF 0 out = some cols.length) :
    remL (procL out cols t starts).1 = l ∧ balF 0 (procL out cols t starts).1 = some (procL out cols t starts).2.length := by
  have hp : remL (popS starts out cols t).1 = l ∧ balF 0 (popS starts out cols t).1 = some (popS starts out cols t).2.length := by
    unfold popS
    split
    · obtain ⟨h1, h2⟩ := popC_rem t.2.2 t.2 cols out h.2
      exact ⟨h1.trans h.1, h2⟩
    · exact h
  unfold procL
  generalize popS starts out cols t = r at *
  unfold procE
  split
  · split
    · rename_i h1
      refine ⟨?_, ?_⟩
      · simp only
        rw [remL_append, remL_mk 7 _ (by decide) (by decide), hp.1, List.append_nil]
      · simp only
        rw [balF_snoc hp.2]
        have : r.2.length ≠ 0 := by omega
        simp [balF, mkT, this]
    · exact hp
  · split
    · refine ⟨?_, ?_⟩
      · simp only
        rw [remL_append, remL_mk 6 _ (by decide) (by decide), hp.1, List.append_nil]
      · simp only
        rw [balF_snoc hp.2]; simp [balF, mkT]
    · exact hp
theorem add_kept {s : LSt} {l : List Tok} (t : Tok) (h : Kept s l) (h0 : (addL s t).1 = 0) : Kept (addL s t).2 (l ++ [t]) := by
  unfold addL at h0 ⊢
  by_cases h1 : (valT t.1 && isAft t.2 s.last) = false
  · rw [if_pos h1] at h0; simp at h0
  have hv : valT t.1 = true := by
    cases hv : valT t.1
    · rw [hv] at h1; exact absurd rfl h1
    · rfl
  rw [if_neg h1] at h0 ⊢
  by_cases h2 : s.last = (0, 0)
  · rw [if_pos h2] at h0 ⊢
    by_cases h3 : t.2.2 ≠ 1
    · rw [if_pos h3] at h0; simp at h0
    · rw [if_neg h3]; exact fin_kept t hv _ _ h
  rw [if_neg h2] at h0 ⊢
  by_cases h3 : s.item ≠ (0, 0)
  · rw [if_pos h3] at h0 ⊢
    by_cases h4 : (begL s.out s.cols t).1 ≠ 0
    · rw [if_pos h4] at h0; exact absurd h0 h4
    · rw [if_neg h4]
      exact fin_kept t hv _ _ (beg_kept t h (Classical.byContradiction h4))
  rw [if_neg h3] at h0 ⊢
  by_cases h5 : s.last.1 < t.2.1 ∧ s.line ≠ (0, 0)
  · rw [if_pos h5] at h0 ⊢
    by_cases h4 : (begL s.out s.cols t).1 ≠ 0
    · rw [if_pos h4] at h0; exact absurd h0 h4
    · rw [if_neg h4]
      exact fin_kept t hv _ _ (beg_kept t h (Classical.byContradiction h4))
  rw [if_neg h5]
  exact fin_kept t hv _ _ (proc_kept t _ h)

theorem rem_rep (n : Nat) (p : Int × Int) : remL (List.replicate n (mkT 7 p)) = [] := by
  induction n with
  | zero => rfl
  | succ n ih => rw [List.replicate_succ, show mkT 7 p :: List.replicate n (mkT 7 p) = [mkT 7 p] ++ List.replicate n (mkT 7 p) from rfl, remL_append, ih, remL_mk 7 _ (by decide) (by decide)]; rfl
theorem bal_rep (n : Nat) (p : Int × Int) : balF n (List.replicate n (mkT 7 p)) = some 0 := by
  induction n with
  | zero => rfl
  | succ n ih => rw [List.replicate_succ]; unfold balF; simpa [mkT] using ih

theorem insF_kept : ∀ (l : List Tok) (s : LSt) (k : List Tok), Kept s k → (insF s l).2.2 = 0 → remL (insF s l).1 = k ++ l ∧ balL (insF s l).1 = true := by
  intro l
  induction l with
  | nil =>
    intro s k h h0
    unfold insF endL at h0 ⊢
    by_cases h1 : s.line ≠ (0, 0)
    · rw [if_pos h1] at h0; simp at h0
    rw [if_neg h1] at h0 ⊢
    by_cases h2 : s.item ≠ (0, 0)
    · rw [if_pos h2] at h0; simp at h0
    rw [if_neg h2]
    refine ⟨?_, ?_⟩
    · simp only
      rw [remL_append, h.1, rem_rep]
    · simp only [balL]
      rw [balF_snoc h.2, bal_rep]; rfl
  | cons t r ih =>
    intro s k h h0
    rw [insF_cons] at h0 ⊢
    by_cases h1 : (addL s t).1 ≠ 0
    · rw [if_pos h1] at h0; exact absurd h0 h1
    · rw [if_neg h1] at h0 ⊢
      have := ih _ _ (add_kept t h (Classical.byContradiction h1)) h0
      simpa using this
theorem ins_removes (l : List Tok) (h : (insL l).2.2 = 0) : remL (insL l).1 = l ∧ balL (insL l).1 = true :=
  insF_kept l startL [] ⟨by decide, by decide⟩ h
theorem insF_err : ∀ (l : List Tok) (s : LSt), (insF s l).2.2 ≠ 0 → (insF s l).1 = [] := by
  intro l
  induction l with
  | nil =>
    intro s h0
    unfold insF endL at h0 ⊢
    by_cases h1 : s.line ≠ (0, 0)
    · rw [if_pos h1]
    rw [if_neg h1] at h0 ⊢
    by_cases h2 : s.item ≠ (0, 0)
    · rw [if_pos h2]
    rw [if_neg h2] at h0
    exact absurd rfl h0
  | cons t r ih =>
    intro s h0
    rw [insF_cons] at h0 ⊢
    by_cases h1 : (addL s t).1 ≠ 0
    · rw [if_pos h1]
    · rw [if_neg h1] at h0 ⊢
      exact ih _ h0

end Go.Proofs.YtoogbgmneabfnaaDoor.M

namespace Go.Proofs.YtoogbgmneabfnaaDoor
open Go.RowKit M

/-- the blocks of Pr are as they were -/
structure Keep (Pr : Nat → Prop) (w w' : World) : Prop where
  os : w'.os = w.os
  tape : w'.tape = w.tape
  output : w'.output = w.output
  size : w.heap.size ≤ w'.heap.size
  block : ∀ k, Pr k → w'.heap[k]? = w.heap[k]?

section
variable {Pr Pr' : Nat → Prop} {w w' w'' a : World}
theorem Keep.refl (Pr : Nat → Prop) (w : World) : Keep Pr w w := ⟨rfl, rfl, rfl, Nat.le_refl _, fun _ _ => rfl⟩
theorem Keep.trans (h : Keep Pr a w) (k : Keep Pr w w') : Keep Pr a w' :=
  ⟨k.os.trans h.os, k.tape.trans h.tape, k.output.trans h.output, Nat.le_trans h.size k.size, fun i hi => (k.block i hi).trans (h.block i hi)⟩
theorem Keep.mono (h : Keep Pr a w) (hp : ∀ k, Pr' k → Pr k) : Keep Pr' a w := ⟨h.os, h.tape, h.output, h.size, fun k hk => h.block k (hp k hk)⟩
theorem Keep.alloc (h : Keep Pr a w) (hp : ∀ k, Pr k → k < a.heap.size) (o : Obj) : Keep Pr a (w.alloc o) :=
  ⟨h.os, h.tape, h.output, Nat.le_trans h.size (by simp), fun i hi => (Below.heap_alloc w o i (Nat.lt_of_lt_of_le (hp i hi) h.size)).trans (h.block i hi)⟩
theorem Keep.setCell (h : Keep Pr a w) {p : Addr} (hp : ¬ Pr p.block) (u : Value) : Keep Pr a (w.setCell p u) :=
  ⟨h.os, h.tape, h.output, by simpa [World.setCell] using h.size, fun i hi => (Below.heap_setCell w p u i (fun e => hp (by rw [← e]; exact hi))).trans (h.block i hi)⟩
theorem Keep.drew (h : Keep Pr a w) : Keep Pr a w.drew := ⟨h.os, h.tape, h.output, h.size, h.block⟩
theorem Keep.drewN (h : Keep Pr a w) (n : Nat) : Keep Pr a (w.drewN n) := ⟨h.os, h.tape, h.output, h.size, h.block⟩
theorem Keep.grown {row : Option Nat} (h : Keep Pr a w) (k : w.grownBy w' row) (hp : ∀ k, Pr k → k < a.heap.size) (hr : ∀ k, row = some k → ¬ Pr k) : Keep Pr a w' :=
  ⟨k.os.trans h.os, k.tape.trans h.tape, k.output.trans h.output, Nat.le_trans h.size k.size, fun i hi => (k.block i (Nat.lt_of_lt_of_le (hp i hi) h.size) (fun e => hr i e.symm hi)).trans (h.block i hi)⟩
theorem Keep.below {B : Nat} (h : Below B w w') (hp : ∀ k, Pr k → k < B) : Keep Pr w w' := ⟨h.os, h.tape, h.output, h.size, fun k hk => h.block k (hp k hk)⟩
theorem Keep.to_below {B : Nat} (h : Keep (· < B) w w') : Below B w w' := ⟨h.os, h.tape, h.output, h.size, h.block⟩
theorem Keep.cell (h : Keep Pr w w') {b : Nat} (hb : Pr b) (o : Nat) : w'.cell? ⟨b, o, none⟩ = w.cell? ⟨b, o, none⟩ := World.cell?_of_block (h.block b hb)
theorem Keep.frozen (h : Keep Pr w w') {b : Nat} (hb : Pr b) (o : Nat) : w'.frozen? ⟨b, o, none⟩ = w.frozen? ⟨b, o, none⟩ := by
  simp [World.frozen?, h.block b hb]
end

/-- a block that is known whole -/
def Blk (w : World) (g : Nat) (t : TypeId) (cs : Array Value) : Prop := w.heap[g]? = some (.cells cs t (0, 0))
section
variable {w w' : World} {g : Nat} {t : TypeId} {cs : Array Value}
theorem Blk.lt (h : Blk w g t cs) : g < w.heap.size := lt_of_some h
theorem Blk.cell (h : Blk w g t cs) (i : Nat) : w.cell? ⟨g, i, none⟩ = cs[i]? := cell_of_row w g i cs t (0, 0) h
theorem Blk.frozen (h : Blk w g t cs) (i : Nat) : w.frozen? ⟨g, i, none⟩ = false := by
  unfold Blk at h
  simp [World.frozen?, h]
theorem Blk.new (w : World) (t : TypeId) (cs : Array Value) : Blk (w.alloc (.cells cs t)) w.heap.size t cs := heap_alloc_new w _
theorem Blk.drew (h : Blk w g t cs) : Blk w.drew g t cs := h
theorem Blk.drewN (h : Blk w g t cs) (n : Nat) : Blk (w.drewN n) g t cs := h
theorem Blk.alloc (h : Blk w g t cs) (o : Obj) : Blk (w.alloc o) g t cs := (Below.heap_alloc w o g h.lt).trans h
theorem Blk.set_ (h : Blk w g t cs) (i : Nat) (u : Value) : Blk (w.setCell ⟨g, i, none⟩ u) g t (cs.setIfInBounds i u) := by
  unfold Blk at h ⊢
  simp [World.setCell, Array.getElem?_modify, h]
theorem Blk.far (h : Blk w g t cs) {p : Addr} (hp : g ≠ p.block) (u : Value) : Blk (w.setCell p u) g t cs := (Below.heap_setCell w p u g hp).trans h
theorem Blk.grown {row : Option Nat} (h : Blk w g t cs) (hb : w.grownBy w' row) (hg : some g ≠ row) : Blk w' g t cs := (hb.block g h.lt hg).trans h
theorem Blk.keep {Pr : Nat → Prop} (h : Blk w g t cs) (hb : Keep Pr w w') (hg : Pr g) : Blk w' g t cs := (hb.block g hg).trans h
theorem Blk.ne_ {g' : Nat} {t' : TypeId} {cs' : Array Value} (h : Blk w g t cs) (h' : Blk w g' t' cs') (hne : t ≠ t') : g ≠ g' := by
  rintro rfl
  unfold Blk at h h'
  rw [h] at h'
  injection h' with h'
  injection h' with _ ht
  exact hne ht
theorem own_blk_ne {base : Nat} {e : TypeId} {size n : Nat} {v : Value} {xs : List Value} (h : w.ownsRow base e size v n xs) (hg : Blk w g t cs) (hne : e ≠ t) : v.ownBlock ≠ some g := by
  rcases h.2 with ⟨rfl, _⟩ | ⟨g', cap, cur, rfl, _, hh, _⟩
  · simp [Value.ownBlock]
  · intro he
    have : g' = g := by simpa [Value.ownBlock] using he
    subst this
    exact Blk.ne_ (t := e) hh hg hne rfl
end
/-- two rows of different element types never share a block -/
theorem own_own_ne {w : World} {b b' : Nat} {e e' : TypeId} {z z' n n' : Nat} {v v' : Value} {xs xs' : List Value} (h : w.ownsRow b e z v n xs) (h' : w.ownsRow b' e' z' v' n' xs') (hne : e ≠ e') :
    ∀ k, v.ownBlock = some k → v'.ownBlock ≠ some k := by
  intro k hk
  rcases h.2 with ⟨rfl, _⟩ | ⟨g, cap, cur, rfl, _, hh, _⟩
  · simp [Value.ownBlock] at hk
  · have : g = k := by simpa [Value.ownBlock] using hk
    subst this
    exact own_blk_ne h' hh (fun e => hne e.symm)
theorem owns_keep {Pr : Nat → Prop} {w w' : World} {b : Nat} {e : TypeId} {z : Nat} {v : Value} {n : Nat} {xs : List Value} (h : w.ownsRow b e z v n xs) (hk : Keep Pr w w') (hp : ∀ k, v.ownBlock = some k → Pr k) : w'.ownsRow b e z v n xs := by
  obtain ⟨h1, h2⟩ := h
  refine ⟨h1, ?_⟩
  rcases h2 with h2 | ⟨g, cap, cur, rfl, a, c, d⟩
  · exact .inl h2
  · have hg : Pr g := hp g (by simp [Value.ownBlock])
    exact .inr ⟨g, cap, cur, rfl, a, (hk.block g hg).trans c, d⟩
/-- the row cut to its first m elements -/
theorem owns_take {w : World} {b : Nat} {e : TypeId} {z g n c : Nat} {xs : List Value} (h : w.ownsRow b e z (.slice (some ⟨g, 0, none⟩) n c) n xs) (m : Nat) (hm : m ≤ n) :
    w.ownsRow b e z (.slice (some ⟨g, 0, none⟩) m c) m (xs.take (m * z)) := by
  obtain ⟨h1, h2⟩ := h
  refine ⟨?_, ?_⟩
  · rw [List.length_take, h1]; have := Nat.mul_le_mul_right z hm; omega
  · rcases h2 with ⟨h, _⟩ | ⟨g', cap, cur, hv, a, c', d, r, q, hx⟩
    · cases h
    · injection hv with hv1 hv2 hv3
      injection hv1 with hv1
      injection hv1 with hv1
      subst hv1 hv3
      refine .inr ⟨_, _, cur, rfl, a, c', by omega, r, q, ?_⟩
      rw [← hx, List.take_take]
      have := Nat.mul_le_mul_right z hm
      rw [Nat.min_eq_left this]

end Go.Proofs.YtoogbgmneabfnaaDoor
