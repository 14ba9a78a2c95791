/- What the offside rule's state keeps from token to token: a bound on its size, the program's block. No program in it. What the reference's Insert keeps from token to token, on the model. No program in it. The reference's closer and after. No conditions. -/
import Derived.Test.YtoogbgmneabfnaaDoorG6
import Derived.Test.YtoogbgmneabfnaaDoorG8
namespace Go.Proofs.YtoogbgmneabfnaaDoor.M
open Go

structure LInv (k : Nat) (s : LSt) : Prop where
  base : s.cols.getLast? = some 1
  size : s.cols.length ≤ 64
  out : s.out.length + s.cols.length ≤ 4 * k + 2
  last : s.last = (0, 0) ∨ 1 ≤ s.last.1

theorem start_inv : LInv 0 startL := ⟨rfl, by decide, by decide, .inl rfl⟩
theorem begL_len (out : List Tok) (cols : List Int) (t : Tok) : (begL out cols t).2.1.length + (begL out cols t).2.2.length ≤ out.length + cols.length + 2 ∧ out.length ≤ (begL out cols t).2.1.length := by
  unfold begL
  split
  · simp; omega
  · split
    · simp
    · split
      · simp
      · simp; omega
theorem getLast_cons {x : Int} {cols : List Int} (h : cols.getLast? = some 1) : (x :: cols).getLast? = some 1 := by
  cases cols with
  | nil => simp at h
  | cons y r => simpa using h
theorem begL_ok {out : List Tok} {cols : List Int} {t : Tok} (hl : cols.getLast? = some 1) (hs : cols.length ≤ 64) :
    (begL out cols t).2.2.getLast? = some 1 ∧ (begL out cols t).2.2.length ≤ 64 := by
  unfold begL
  split
  · exact ⟨hl, hs⟩
  · split
    · exact ⟨hl, hs⟩
    · split
      · exact ⟨hl, hs⟩
      · rename_i h3
        exact ⟨getLast_cons hl, by simp; omega⟩
theorem procL_ok {out : List Tok} {cols : List Int} {t : Tok} (st : Bool) (hl : cols.getLast? = some 1) (hs : cols.length ≤ 64) (hb : 1 ≤ t.2.2) :
    (procL out cols t st).2.getLast? = some 1 ∧ (procL out cols t st).2.length ≤ 64 ∧ (procL out cols t st).1.length + (procL out cols t st).2.length ≤ out.length + cols.length + 1 := by
  have hp : (popS st out cols t).2.getLast? = some 1 ∧ (popS st out cols t).2.length ≤ cols.length ∧ (popS st out cols t).1.length + (popS st out cols t).2.length = out.length + cols.length := by
    unfold popS
    split
    · have := popC_ne t.2.2 t.2 hb cols out hl
      exact ⟨this.1, this.2.1, this.2.2.1⟩
    · exact ⟨hl, Nat.le_refl _, rfl⟩
  unfold procL
  generalize popS st out cols t = r at *
  obtain ⟨o, c⟩ := r
  simp only at hp
  obtain ⟨h1, h2, h3⟩ := hp
  unfold procE
  split
  · split
    · rename_i hq
      cases c with
      | nil => simp at h1
      | cons x r =>
        cases r with
        | nil => simp at hq; omega
        | cons y q => simp only [List.tail_cons]; simp at h1 h2 h3 ⊢; exact ⟨h1, by omega, by omega⟩
    · refine ⟨h1, ?_, ?_⟩ <;> simp only <;> omega
  · split
    · refine ⟨h1, ?_, ?_⟩
      · simp only; omega
      · simp; omega
    · refine ⟨h1, ?_, ?_⟩ <;> simp only <;> omega
theorem fin_inv {k : Nat} {out : List Tok} {cols : List Int} (item line : Int × Int) (t : Tok) (h1 : cols.getLast? = some 1) (h2 : cols.length ≤ 64) (h3 : out.length + cols.length ≤ 4 * k + 5) (h4 : 1 ≤ t.2.1) :
    LInv (k + 1) (finL out cols item line t) :=
  ⟨h1, h2, by show (out ++ [t]).length + cols.length ≤ _; simp; omega, .inr h4⟩
theorem isAft_pos {p q : Int × Int} (h : isAft p q = true) : 1 ≤ p.1 ∧ 1 ≤ p.2 := by
  unfold isAft at h
  simp at h
  exact ⟨h.1, h.2.1⟩
theorem val_aft {t : Tok} {q : Int × Int} (h : ¬ (valT t.1 && isAft t.2 q) = false) : valT t.1 = true ∧ isAft t.2 q = true := by
  cases h1 : valT t.1
  · rw [h1] at h; exact absurd rfl h
  · cases h2 : isAft t.2 q
    · rw [h1, h2] at h; exact absurd rfl h
    · exact ⟨rfl, rfl⟩
theorem add_inv {k : Nat} {s : LSt} (t : Tok) (h : LInv k s) (h0 : (addL s t).1 = 0) : LInv (k + 1) (addL s t).2 := by
  obtain ⟨b1, b2, b3, b4⟩ := h
  unfold addL at h0 ⊢
  by_cases h1 : (valT t.1 && isAft t.2 s.last) = false
  · rw [if_pos h1] at h0; simp at h0
  obtain ⟨_, ha⟩ := val_aft h1
  obtain ⟨p1, p2⟩ := isAft_pos ha
  rw [if_neg h1] at h0 ⊢
  by_cases h2 : s.last = (0, 0)
  · rw [if_pos h2] at h0 ⊢
    by_cases h3 : t.2.2 ≠ 1
    · rw [if_pos h3] at h0; simp at h0
    · rw [if_neg h3]; exact fin_inv _ _ _ b1 b2 (by omega) p1
  rw [if_neg h2] at h0 ⊢
  have hl := (begL_len s.out s.cols t).1
  by_cases h3 : s.item ≠ (0, 0)
  · rw [if_pos h3] at h0 ⊢
    by_cases h4 : (begL s.out s.cols t).1 ≠ 0
    · rw [if_pos h4] at h0; exact absurd h0 h4
    · rw [if_neg h4]
      obtain ⟨q1, q2⟩ := begL_ok (out := s.out) (t := t) b1 b2
      exact fin_inv _ _ _ q1 q2 (by omega) p1
  rw [if_neg h3] at h0 ⊢
  by_cases h5 : s.last.1 < t.2.1 ∧ s.line ≠ (0, 0)
  · rw [if_pos h5] at h0 ⊢
    by_cases h4 : (begL s.out s.cols t).1 ≠ 0
    · rw [if_pos h4] at h0; exact absurd h0 h4
    · rw [if_neg h4]
      obtain ⟨q1, q2⟩ := begL_ok (out := s.out) (t := t) b1 b2
      exact fin_inv _ _ _ q1 q2 (by omega) p1
  rw [if_neg h5]
  obtain ⟨q1, q2, q3⟩ := procL_ok (out := s.out) (decide (s.last.1 < t.2.1)) b1 b2 p2
  exact fin_inv _ _ _ q1 q2 (by omega) p1

end Go.Proofs.YtoogbgmneabfnaaDoor.M

namespace Go.Proofs.YtoogbgmneabfnaaDoor.M
open Go

/-- position q is behind position p -/
def aftB (p q : Int × Int) : Bool := decide (p.1 < q.1) || (decide (q.1 = p.1) && decide (p.2 < q.2))
/-- the reference's last position -/
def lastR (k : Nat) (s : LSt) : Int × Int := if k = 0 then (1, 0) else s.last

structure RInv (k : Nat) (s : LSt) : Prop where
  zero : k = 0 → s = startL
  pos : k ≠ 0 → s.last ≠ (0, 0) ∧ 1 ≤ s.last.1 ∧ 2 ≤ s.out.length
  item : s.item ≠ (0, 0) → s.item = s.last
  both : s.item ≠ (0, 0) → s.line ≠ (0, 0) → aftB s.line s.item = true
  line : s.line ≠ (0, 0) → s.line = s.last ∨ aftB s.line s.last = true
theorem start_rinv : RInv 0 startL := ⟨fun _ => rfl, fun h => absurd rfl h, fun h => absurd rfl h, fun h => absurd rfl h, fun h => absurd rfl h⟩
theorem aft_of {p q : Int × Int} (h : isAft p q = true) : 1 ≤ p.1 ∧ 1 ≤ p.2 ∧ aftB q p = true := by
  unfold isAft at h
  unfold aftB
  simp at h ⊢
  omega
theorem aft_trans {p q r : Int × Int} (h1 : aftB p q = true) (h2 : aftB q r = true) : aftB p r = true := by
  unfold aftB at *
  simp at h1 h2 ⊢
  omega
theorem valid_eq {k : Nat} {s : LSt} (h : RInv k s) (v : Bool) (p : Int × Int) : (v && isAft p s.last) = (v && (decide (1 ≤ p.2) && aftB (lastR k s) p)) := by
  congr 1
  by_cases h0 : k = 0
  · have hs := h.zero h0
    subst hs
    unfold lastR isAft aftB startL
    rw [if_pos h0, Bool.eq_iff_iff]
    simp
    omega
  · obtain ⟨_, hl, _⟩ := h.pos h0
    unfold lastR isAft aftB
    rw [if_neg h0, Bool.eq_iff_iff]
    simp
    omega
theorem key_apart {t : TR} (h : itemK t = true) : lineK t = false := by
  unfold itemK at h
  unfold lineK
  simp only [Bool.and_eq_true, Bool.or_eq_true, decide_eq_true_eq] at h
  obtain ⟨_, h | h⟩ := h <;> (rw [h]; simp [kwLet, kwExports, kwModule, kwTimed])
theorem fin_rinv (k : Nat) (out : List Tok) (cols : List Int) (line : Int × Int) (t : Tok) (h1 : 1 ≤ t.2.1) (ho : 1 ≤ out.length) (hl : line ≠ (0, 0) → aftB line t.2 = true) : RInv (k + 1) (finL out cols (0, 0) line t) := by
  have hne : t.2 ≠ (0, 0) := fun q => by rw [q] at h1; exact absurd h1 (by decide)
  refine ⟨fun q => absurd q (by omega), fun _ => ⟨hne, h1, by unfold finL; simp; omega⟩, fun hi => ?_, fun hi hn => ?_, fun hn => ?_⟩
  · unfold finL at hi ⊢
    simp only at hi ⊢
    by_cases hk : itemK t.1 = true
    · rw [if_pos hk]
    · rw [if_neg hk] at hi; exact absurd rfl hi
  · unfold finL at hi hn ⊢
    simp only at hi hn ⊢
    by_cases hk : itemK t.1 = true
    · rw [if_neg (by rw [key_apart hk]; decide)] at hn
      rw [if_pos hk, if_neg (by rw [key_apart hk]; decide)]
      exact hl hn
    · rw [if_neg hk] at hi; exact absurd rfl hi
  · unfold finL at hn ⊢
    simp only at hn ⊢
    by_cases hk : lineK t.1 = true
    · rw [if_pos hk]; exact .inl rfl
    · rw [if_neg hk] at hn ⊢; exact .inr (hl hn)
theorem begL_out (out : List Tok) (cols : List Int) (t : Tok) : out.length ≤ (begL out cols t).2.1.length := (begL_len out cols t).2
theorem procL_out {out : List Tok} {cols : List Int} {t : Tok} (st : Bool) (hl : cols.getLast? = some 1) (hb : 1 ≤ t.2.2) : out.length ≤ (procL out cols t st).1.length := by
  have hp : out.length ≤ (popS st out cols t).1.length := by
    unfold popS
    split
    · have := popC_ne t.2.2 t.2 hb cols out hl
      omega
    · exact Nat.le_refl _
  unfold procL
  generalize popS st out cols t = r at *
  unfold procE
  split
  · split
    · simp; omega
    · exact hp
  · split
    · simp; omega
    · exact hp
theorem line_aft {k : Nat} {s : LSt} (h : RInv k s) {p : Int × Int} (ha : isAft p s.last = true) : s.line ≠ (0, 0) → aftB s.line p = true := fun hn => by
  rcases h.line hn with q | q
  · rw [q]; exact (aft_of ha).2.2
  · exact aft_trans q (aft_of ha).2.2
theorem add_rinv {k : Nat} {s : LSt} (t : Tok) (hL : LInv k s) (h : RInv k s) (h0 : (addL s t).1 = 0) : RInv (k + 1) (addL s t).2 := by
  have ho : 1 ≤ s.out.length := by
    by_cases hk : k = 0
    · rw [h.zero hk]; decide
    · have := (h.pos hk).2.2; omega
  unfold addL at h0 ⊢
  by_cases h1 : (valT t.1 && isAft t.2 s.last) = false
  · rw [if_pos h1] at h0; simp at h0
  have ha : isAft t.2 s.last = true := by
    cases ha : isAft t.2 s.last
    · rw [ha, Bool.and_false] at h1; exact absurd rfl h1
    · rfl
  obtain ⟨ha1, ha2, _⟩ := aft_of ha
  rw [if_neg h1] at h0 ⊢
  by_cases h2 : s.last = (0, 0)
  · rw [if_pos h2] at h0 ⊢
    have hk : k = 0 := Classical.byContradiction fun q => (h.pos q).1 h2
    have hs := h.zero hk
    by_cases h3 : t.2.2 ≠ 1
    · rw [if_pos h3] at h0; simp at h0
    · rw [if_neg h3]
      have hi : s.item = (0, 0) := by rw [hs]; rfl
      rw [hi]
      exact fin_rinv k _ _ _ t ha1 ho (line_aft h ha)
  rw [if_neg h2] at h0 ⊢
  by_cases h3 : s.item ≠ (0, 0)
  · rw [if_pos h3] at h0 ⊢
    by_cases h4 : (begL s.out s.cols t).1 ≠ 0
    · rw [if_pos h4] at h0; exact absurd h0 h4
    · rw [if_neg h4]
      exact fin_rinv k _ _ _ t ha1 (Nat.le_trans ho (begL_out _ _ _)) (line_aft h ha)
  rw [if_neg h3] at h0 ⊢
  have hi : s.item = (0, 0) := Classical.not_not.1 h3
  by_cases h5 : s.last.1 < t.2.1 ∧ s.line ≠ (0, 0)
  · rw [if_pos h5] at h0 ⊢
    by_cases h4 : (begL s.out s.cols t).1 ≠ 0
    · rw [if_pos h4] at h0; exact absurd h0 h4
    · rw [if_neg h4]
      exact fin_rinv k _ _ _ t ha1 (Nat.le_trans ho (begL_out _ _ _)) (fun q => absurd rfl q)
  rw [if_neg h5, hi]
  exact fin_rinv k _ _ _ t ha1 (Nat.le_trans ho (procL_out _ hL.base ha2)) (line_aft h ha)

theorem lastR_succ (k : Nat) (s : LSt) : lastR (k + 1) s = s.last := by unfold lastR; rw [if_neg (by omega)]
theorem beqB (l k : Bs) : (l == k) = decide (l = k) := by
  by_cases h : l = k
  · rw [decide_eq_true h]; exact beq_iff_eq.2 h
  · rw [decide_eq_false h]; exact beq_eq_false_iff_ne.2 h
theorem key_cases (t : TR) :
    ((t.kind == 3) = false ∧ itemK t = false ∧ lineK t = false) ∨
    ((t.kind == 3) = true ∧ (t.str == [108, 101, 116]) = true ∧ itemK t = true ∧ lineK t = false) ∨
    ((t.kind == 3) = true ∧ (t.str == [108, 101, 116]) = false ∧ (t.str == [101, 120, 112, 111, 114, 116, 115]) = true ∧ itemK t = true ∧ lineK t = false) ∨
    ((t.kind == 3) = true ∧ (t.str == [108, 101, 116]) = false ∧ (t.str == [101, 120, 112, 111, 114, 116, 115]) = false ∧ (t.str == [109, 111, 100, 117, 108, 101]) = true ∧ itemK t = false ∧ lineK t = true) ∨
    ((t.kind == 3) = true ∧ (t.str == [108, 101, 116]) = false ∧ (t.str == [101, 120, 112, 111, 114, 116, 115]) = false ∧ (t.str == [109, 111, 100, 117, 108, 101]) = false ∧ (t.str == [84, 105, 109, 101, 100]) = true ∧ itemK t = false ∧ lineK t = true) ∨
    ((t.kind == 3) = true ∧ (t.str == [108, 101, 116]) = false ∧ (t.str == [101, 120, 112, 111, 114, 116, 115]) = false ∧ (t.str == [109, 111, 100, 117, 108, 101]) = false ∧ (t.str == [84, 105, 109, 101, 100]) = false ∧ itemK t = false ∧ lineK t = false) := by
  unfold itemK lineK
  rw [← beqB, ← beqB, ← beqB, ← beqB]
  unfold kwLet kwExports kwModule kwTimed
  by_cases hk : t.kind = 3
  · have h3 : (t.kind == 3) = true := beq_iff_eq.2 hk
    rw [decide_eq_true hk, h3]
    cases d1 : (t.str == [108, 101, 116])
    · cases d2 : (t.str == [101, 120, 112, 111, 114, 116, 115])
      · cases d3 : (t.str == [109, 111, 100, 117, 108, 101])
        · cases d4 : (t.str == [84, 105, 109, 101, 100])
          · right; right; right; right; right; exact ⟨rfl, rfl, rfl, rfl, rfl, rfl, rfl⟩
          · right; right; right; right; left; exact ⟨rfl, rfl, rfl, rfl, rfl, rfl, rfl⟩
        · right; right; right; left; exact ⟨rfl, rfl, rfl, rfl, rfl, rfl⟩
      · have e := beq_iff_eq.1 d2
        right; right; left; refine ⟨rfl, rfl, rfl, rfl, ?_⟩
        rw [e]; rfl
    · have e := beq_iff_eq.1 d1
      right; left; refine ⟨rfl, rfl, rfl, ?_⟩
      rw [e]; rfl
  · have h3 : (t.kind == 3) = false := beq_eq_false_iff_ne.2 hk
    rw [decide_eq_false hk, h3]
    left; exact ⟨rfl, rfl, rfl⟩

end Go.Proofs.YtoogbgmneabfnaaDoor.M

namespace Go.Proofs.YtoogbgmneabfnaaDoor
open Go.RowKit M

set_option maxHeartbeats 2000000 in
theorem rcloser_any (w : World) (t : TR) (a b : Int) :
    Calls Tryd.prog 42 #[tkV t a b] w fun e w' => e = .returned (.bool (closB t)) ∧ Below w.heap.size w w' := by
  obtain ⟨kd, nu, st, er⟩ := t
  show Calls _ _ #[.agg #[.int .i64 kd, .int .i64 nu, .string (S st), .int .i64 a, .int .i64 b]] _ fun e w' => e = .returned (.bool (decide (kd = 3) && (decide (st = kwWithin) || decide (st = kwExports) || decide (st = kwEndmodule) || decide (st = kwEndtimed)))) ∧ Below w.heap.size w w'
  rw [← beqEq, ← beqEq, ← beqEq, ← beqEq]
  unfold kwWithin kwExports kwEndmodule kwEndtimed
  by_cases hk : kd = 3
  · have g0 : (kd == 3) = true := by simp [hk]
    rw [decide_eq_true hk]
    clear hk
    cases d1 : (st == [119, 105, 116, 104, 105, 110])
    · cases d2 : (st == [101, 120, 112, 111, 114, 116, 115])
      · cases d3 : (st == [101, 110, 100, 109, 111, 100, 117, 108, 101])
        · cases d4 : (st == [101, 110, 100, 116, 105, 109, 101, 100])
          all_goals
            go_enter Tryd.func42, Tryd.ntmps42
            go_wp2
            go_ret
            exact ⟨rfl, (Below.refl _ _).alloc (Nat.le_refl _) _⟩
        · go_enter Tryd.func42, Tryd.ntmps42
          go_wp2
          go_ret
          exact ⟨rfl, (Below.refl _ _).alloc (Nat.le_refl _) _⟩
      · go_enter Tryd.func42, Tryd.ntmps42
        go_wp2
        go_ret
        exact ⟨rfl, (Below.refl _ _).alloc (Nat.le_refl _) _⟩
    · go_enter Tryd.func42, Tryd.ntmps42
      go_wp2
      go_ret
      exact ⟨rfl, (Below.refl _ _).alloc (Nat.le_refl _) _⟩
  · have g0 : (kd == 3) = false := by simp [hk]
    rw [decide_eq_false hk]
    clear hk
    go_enter Tryd.func42, Tryd.ntmps42
    go_wp2
    go_ret
    exact ⟨rfl, (Below.refl _ _).alloc (Nat.le_refl _) _⟩

set_option maxHeartbeats 1000000 in
theorem rafter_any (w : World) (p q : Int × Int) :
    Calls Tryd.prog 22 #[posV p.1 p.2, posV q.1 q.2] w fun e w' => e = .returned (.bool (aftB p q)) ∧ Below w.heap.size w w' := by
  obtain ⟨a, b⟩ := p
  obtain ⟨c, d⟩ := q
  go_enter Tryd.func22, Tryd.ntmps22
  go_wp2
  all_goals
    go_ret
    exact ⟨ret_bool (by unfold aftB; rw [Bool.eq_iff_iff]; simp; omega), ((Below.refl _ _).alloc (Nat.le_refl _) _).alloc (by simp) _⟩

end Go.Proofs.YtoogbgmneabfnaaDoor
