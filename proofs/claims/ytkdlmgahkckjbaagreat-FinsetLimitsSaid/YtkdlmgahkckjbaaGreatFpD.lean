/- finset's choices: the sequences with one element of each factor, one after another, for every loop body that keeps what lay below and the iterator's own two blocks. Conditions: at most 131072 factors, none empty, at most 4096 sequences. -/
import Derived.Test.YtkdlmgahkckjbaaGreatFpB
import Derived.Test.YtkdlmgahkckjbaaGreatFnE
import Derived.Test.YtkdlmgahkckjbaaGreatRng
import Derived.Test.YtkdlmgahkckjbaaGreatRgd
import Derived.Laws.OwnMore
namespace Go.Proofs.YtkdlmgahkckjbaaGreat
open Go.RowKit Go.Shelf VM

/-! the digits of a number -/
def digR : List (List ByteArray) → Nat → List ByteArray
  | [], _ => []
  | f :: r, n => (f[n % f.length]?).getD ⟨#[]⟩ :: digR r (n / f.length)
def restR : List (List ByteArray) → Nat → Nat → Nat
  | _, n, 0 => n
  | [], n, _ + 1 => n
  | f :: r, n, k + 1 => restR r (n / f.length) k
theorem digR_rev : ∀ (R : List (List ByteArray)) (n : Nat), chooseR R n = (digR R n).reverse
  | [], _ => rfl
  | f :: r, n => by
    show chooseR r (n / f.length) ++ [_] = (_ :: digR r (n / f.length)).reverse
    rw [List.reverse_cons, digR_rev r]
theorem digR_len : ∀ (R : List (List ByteArray)) (n : Nat), (digR R n).length = R.length
  | [], _ => rfl
  | f :: r, n => by show (digR r _).length + 1 = _; rw [digR_len r]; rfl
theorem restR_le : ∀ (R : List (List ByteArray)) (n k : Nat), restR R n k ≤ n
  | [], _, 0 => Nat.le_refl _
  | _ :: _, _, 0 => Nat.le_refl _
  | [], _, _ + 1 => Nat.le_refl _
  | f :: r, n, k + 1 => Nat.le_trans (restR_le r (n / f.length) k) (Nat.div_le_self _ _)
theorem restR_succ : ∀ {R : List (List ByteArray)} {n k : Nat} {f : List ByteArray}, R[k]? = some f → restR R n (k + 1) = restR R n k / f.length
  | [], _, _, _, h => by simp at h
  | g :: r, n, 0, f, h => by
    have e : g = f := by simpa using h
    subst e
    show restR r (n / g.length) 0 = _
    cases r <;> rfl
  | g :: r, n, k + 1, f, h => by
    show restR r (n / g.length) (k + 1) = restR r (n / g.length) k / _
    exact restR_succ (R := r) (by simpa using h)
theorem digR_get : ∀ {R : List (List ByteArray)} {n k : Nat} {f : List ByteArray}, R[k]? = some f → (digR R n)[k]? = some ((f[restR R n k % f.length]?).getD ⟨#[]⟩)
  | [], _, _, _, h => by simp at h
  | g :: r, n, 0, f, h => by
    have e : g = f := by simpa using h
    subst e
    show some _ = _
    cases r <;> rfl
  | g :: r, n, k + 1, f, h => by
    show (digR r (n / g.length))[k]? = _
    exact digR_get (R := r) (by simpa using h)
/-! what a round over the factors does to the row and the rest -/
def stepC (fs : List (List ByteArray)) (st : List ByteArray × Nat) (i : Nat) : List ByteArray × Nat :=
  (st.1.set i (((fs[i]?.getD [])[st.2 % (fs[i]?.getD []).length]?).getD ⟨#[]⟩), st.2 / (fs[i]?.getD []).length)
def foldC (fs : List (List ByteArray)) (st : List ByteArray × Nat) (l : List (Ix fs.length)) : List ByteArray × Nat := l.foldl (fun s x => stepC fs s x.1) st
theorem foldC_snoc (fs : List (List ByteArray)) (st : List ByteArray × Nat) (l : List (Ix fs.length)) (x : Ix fs.length) : foldC fs st (l ++ [x]) = stepC fs (foldC fs st l) x.1 := by unfold foldC; rw [List.foldl_append]; rfl
theorem foldC_len (fs : List (List ByteArray)) (st : List ByteArray × Nat) (l : List (Ix fs.length)) : (foldC fs st l).1.length = st.1.length := by
  unfold foldC
  induction l generalizing st with
  | nil => rfl
  | cons x r ih => rw [List.foldl_cons, ih]; simp [stepC]
theorem foldC_le (fs : List (List ByteArray)) (st : List ByteArray × Nat) (l : List (Ix fs.length)) : (foldC fs st l).2 ≤ st.2 := by
  unfold foldC
  induction l generalizing st with
  | nil => exact Nat.le_refl _
  | cons x r ih => rw [List.foldl_cons]; exact Nat.le_trans (ih _) (Nat.div_le_self _ _)
theorem rev_get {α : Type} {l : List α} {k : Nat} (h : k < l.length) : l.reverse[k]? = l[l.length - 1 - k]? := by
  rw [List.getElem?_reverse h]
theorem foldC_upto (fs : List (List ByteArray)) (c : List ByteArray) (m : Nat) (hc : c.length = fs.length) : ∀ k, k ≤ fs.length →
    (foldC fs (c, m) (uptoW fs.length k)).2 = restR fs.reverse m k ∧ ∀ t, t < k → (foldC fs (c, m) (uptoW fs.length k)).1[fs.length - 1 - t]? = (digR fs.reverse m)[t]?
  | 0, _ => ⟨by cases fs.reverse <;> rfl, fun t h => by omega⟩
  | k + 1, hk => by
    obtain ⟨h1, h2⟩ := foldC_upto fs c m hc k (by omega)
    have hl := foldC_len fs (c, m) (uptoW fs.length k)
    rw [uptoW_succ (q := fs.length - 1 - k) (by omega) (by omega), foldC_snoc]
    have hf : fs.reverse[k]? = fs[fs.length - 1 - k]? := rev_get (by omega)
    obtain ⟨f, hf2⟩ : ∃ f, fs[fs.length - 1 - k]? = some f := ⟨_, List.getElem?_eq_getElem (by omega)⟩
    rw [hf2] at hf
    unfold stepC
    simp only [hf2, Option.getD_some, h1]
    refine ⟨(restR_succ hf).symm, fun t ht => ?_⟩
    by_cases e : t = k
    · subst e
      rw [List.getElem?_set_self (by rw [hl]; show _ < c.length; omega), digR_get hf]
    · rw [List.getElem?_set_ne (by omega)]
      exact h2 t (by omega)
theorem foldC_all (fs : List (List ByteArray)) (c : List ByteArray) (m : Nat) (hc : c.length = fs.length) : (foldC fs (c, m) (uptoW fs.length fs.length)).1 = chooseR fs.reverse m := by
  obtain ⟨_, h2⟩ := foldC_upto fs c m hc _ (Nat.le_refl _)
  have hl := foldC_len fs (c, m) (uptoW fs.length fs.length)
  rw [digR_rev]
  have hd := digR_len fs.reverse m
  rw [List.length_reverse] at hd
  refine List.ext_getElem? fun i => ?_
  by_cases hi : i < fs.length
  · have := h2 (fs.length - 1 - i) (by omega)
    rw [show fs.length - 1 - (fs.length - 1 - i) = i by omega] at this
    rw [this, rev_get (by omega), hd]
  · rw [List.getElem?_eq_none (by rw [hl]; show c.length ≤ i; omega), List.getElem?_eq_none (by rw [List.length_reverse]; omega)]
/-! the factors in memory -/
structure Facs (n₀ : Nat) (W : World) (b : Nat) (zs : List SV) (fs : List (List ByteArray)) : Prop where
  lt : b < n₀
  cells : ∀ j, j < fs.length → W.cell? ⟨b, j, none⟩ = some (svV (zs[j]?.getD sv0))
  fac : ∀ j, j < fs.length → (zs[j]?.getD sv0).2.1 = (fs[j]?.getD []).length ∧ 0 < (fs[j]?.getD []).length ∧ (fs[j]?.getD []).length ≤ 65536 ∧
    ∀ i u, (fs[j]?.getD [])[i]? = some u → ∃ g off, (zs[j]?.getD sv0).1 = some ⟨g, off, none⟩ ∧ g < n₀ ∧ W.cell? ⟨g, off + i, none⟩ = some (.string u)
theorem Facs.below {n₀ : Nat} {W W' : World} {b : Nat} {zs : List SV} {fs : List (List ByteArray)} (h : Facs n₀ W b zs fs) (hb : Below n₀ W W') : Facs n₀ W' b zs fs :=
  ⟨h.lt, fun j hj => (hb.cell (p := ⟨b, j, none⟩) h.lt).trans (h.cells j hj), fun j hj => by
    obtain ⟨h1, h2, h4, h3⟩ := h.fac j hj
    refine ⟨h1, h2, h4, fun i u hu => ?_⟩
    obtain ⟨g, off, h5, h6, h7⟩ := h3 i u hu
    exact ⟨g, off, h5, h6, (hb.cell (p := ⟨g, off + i, none⟩) h6).trans h7⟩⟩
/-- the sequences that choices hands out -/
def chS (fs : List (List ByteArray)) (k : Nat) : List BV := (List.range k).map fun m => ⟨mkM 4 (chooseR fs.reverse m), mkM_size 4 (by decide) _⟩
theorem chS_succ (fs : List (List ByteArray)) (k : Nat) : chS fs (k + 1) = chS fs k ++ [⟨mkM 4 (chooseR fs.reverse k), mkM_size 4 (by decide) _⟩] := by unfold chS; rw [List.range_succ, List.map_append]; rfl
theorem chS_len (fs : List (List ByteArray)) (k : Nat) : (chS fs k).length = k := by unfold chS; simp
theorem chS_take (fs : List (List ByteArray)) {j k : Nat} (h : j ≤ k) : chS fs j <+: chS fs k := by
  refine ⟨((List.range k).drop j).map fun m => ⟨mkM 4 (chooseR fs.reverse m), mkM_size 4 (by decide) _⟩, ?_⟩
  unfold chS
  rw [← List.map_append]
  congr 1
  have : List.range j = (List.range k).take j := by rw [List.take_range, Nat.min_eq_left h]
  rw [this, List.take_append_drop]
/-- a row of strings, whole -/
def rowA (c : List ByteArray) : Array Value := (c.map Value.string).toArray
theorem rowA_get (c : List ByteArray) (i : Nat) : (rowA c)[i]? = (c[i]?).map Value.string := by unfold rowA; simp
theorem rowA_set (c : List ByteArray) (i : Nat) (s : ByteArray) : (rowA c).setIfInBounds i (.string s) = rowA (c.set i s) := by unfold rowA; simp [List.map_set]
theorem rowA_made (n : Nat) : madeCells (Value.string ⟨#[]⟩).cells (n * 1) = rowA (List.replicate n ⟨#[]⟩) := by
  apply Array.toList_inj.1
  show (madeCells #[.string ⟨#[]⟩] (n * 1)).toList = _
  rw [toList_madeCells_one, Nat.mul_one]
  unfold rowA
  simp
theorem rowA_in {w : World} {g : Nat} {t : TypeId} {c : List ByteArray} (h : Blk w g t (rowA c)) : InC w (some ⟨g, 0, none⟩) (c.map Value.string) := by
  refine .inr ⟨g, 0, rfl, h.lt, fun i u hu => ?_⟩
  rw [Nat.zero_add, h.cell, rowA_get, ← hu, List.getElem?_map]

/-- make, whole -/
theorem wpList_make_all {P : Program} (w : World) {ops : Array Oper} {rest : List Oper} {o : Oper} {a : Act} {Q : Exit → Act → World → Prop}
    (hg : o.guard = none) (l c : Operand) (t : TypeId) (hop : o.op = Op.makeSlice t l c) (e : TypeId) (i : TypeInfo) (z : Value) (size : Nat) (h1 : P.underlying t = some (.slice e)) (h2 : P.info? e = some i) (h3 : i.zero = some z) (h4 : i.size = size)
    (kl kc : IntKind) (L C : Int) (m : Nat) (hl : a.eval l = .int kl L) (hc : a.eval c = .int kc C) (hL : L = (m : Int)) (hC : C = (m : Int)) (b2 : i.bytes * m ≤ 281474976710656) (b3 : m ≤ maxLen) (M : Array Value) (hM : madeCells z.cells (m * size) = M)
    (hK : wpList P ops Q rest (a.put o.dst (.slice (some ⟨w.heap.size, 0, none⟩) m m)) (w.alloc (.cells M e))) :
    wpList P ops Q (o :: rest) a w := by
  refine wpList_plain hg fun K hK' => ?_
  subst hL
  subst hC
  subst h4
  subst hM
  have hb : (i.bytes : Int) * (m : Int) ≤ 281474976710656 := by
    have h : ((i.bytes * m : Nat) : Int) ≤ 281474976710656 := by omega
    rwa [Int.natCast_mul] at h
  have hrun := run_make (P := P) w t e i z h1 h2 h3 kl kc m m (by omega) (Int.le_refl _) hb (by unfold maxLen at b3; omega)
  simp only [Int.toNat_natCast] at hrun
  unfold Oper.wp
  simp [execOp, hop, hl, hc, hrun, Result.andThen]
  exact hK' _ _ hK
/-- make, whole, in a fence -/
theorem wpListIn_make_all {F : Fence} {n : Nat} {P : Program} (w : World) {ops : Array Oper} {rest : List Oper} {o : Oper} {a : Act} {Q : Exit → Act → World → Prop}
    (hg : o.guard = none) (l c : Operand) (t : TypeId) (hop : o.op = Op.makeSlice t l c) (e : TypeId) (i : TypeInfo) (z : Value) (size : Nat) (h1 : P.underlying t = some (.slice e)) (h2 : P.info? e = some i) (h3 : i.zero = some z) (h4 : i.size = size)
    (kl kc : IntKind) (L C : Int) (m : Nat) (hl : a.eval l = .int kl L) (hc : a.eval c = .int kc C) (hL : L = (m : Int)) (hC : C = (m : Int)) (b2 : i.bytes * m ≤ 281474976710656) (b3 : m ≤ maxLen) (M : Array Value) (hM : madeCells z.cells (m * size) = M)
    (hK : wpListIn F n P ops Q rest (a.put o.dst (.slice (some ⟨w.heap.size, 0, none⟩) m m)) (w.alloc (.cells M e))) :
    wpListIn F n P ops Q (o :: rest) a w := by
  refine wpListIn_plain hg fun K hK' => ?_
  subst hL
  subst hC
  subst h4
  subst hM
  have hb : (i.bytes : Int) * (m : Int) ≤ 281474976710656 := by
    have h : ((i.bytes * m : Nat) : Int) ≤ 281474976710656 := by omega
    rwa [Int.natCast_mul] at h
  have hrun := run_make (P := P) w t e i z h1 h2 h3 kl kc m m (by omega) (Int.le_refl _) hb (by unfold maxLen at b3; omega)
  simp only [Int.toNat_natCast] at hrun
  unfold Oper.wpIn
  refine ⟨?_, ?_⟩
  · simp [Oper.about, hop]
  · rw [Oper.semAt_plain F _ _ (by rw [hop]; intro c hc'; cases hc')]
    simp [execOp, hop, hl, hc, hrun, Result.andThen]
    exact hK' _ _ hK

end Go.Proofs.YtkdlmgahkckjbaaGreat
