/- Products of lists (pure): the rows by their numbers, in the order of the reference. The factors lie from the last to the first. -/
import Derived.Test.YtkdlmgahkckjbaaGreatFnA
namespace Go.Proofs.YtkdlmgahkckjbaaGreat
open VM

def prodR : List (List ByteArray) → Nat
  | [] => 1
  | f :: r => prodR r * f.length
/-- the row with this number -/
def chooseR : List (List ByteArray) → Nat → List ByteArray
  | [], _ => []
  | f :: r, n => chooseR r (n / f.length) ++ [(f[n % f.length]?).getD ⟨#[]⟩]
/-- the rows as the reference makes them -/
def rowsR : List (List ByteArray) → List (List ByteArray)
  | [] => [[]]
  | f :: r => (rowsR r).flatMap fun x => f.map fun v => x ++ [v]
theorem range_mul {α : Type} (g : Nat → α) (m : Nat) : ∀ n : Nat, (List.range (n * m)).map g = (List.range n).flatMap fun q => (List.range m).map fun r => g (q * m + r)
  | 0 => by simp
  | n + 1 => by
    rw [Nat.succ_mul, List.range_add, List.map_append, range_mul g m n, List.range_succ, List.flatMap_append, List.map_map]
    congr 1
    simp
theorem map_get (f : List ByteArray) (g : ByteArray → List ByteArray) : f.map g = (List.range f.length).map fun r => g ((f[r]?).getD ⟨#[]⟩) := by
  refine List.ext_getElem? fun i => ?_
  rw [List.getElem?_map, List.getElem?_map]
  by_cases h : i < f.length
  · rw [List.getElem?_range h, List.getElem?_eq_getElem h]; simp [List.getElem?_eq_getElem h]
  · rw [List.getElem?_eq_none (by omega), List.getElem?_eq_none (by simp; omega)]; rfl
theorem rowsR_eq : ∀ F : List (List ByteArray), rowsR F = (List.range (prodR F)).map (chooseR F)
  | [] => rfl
  | f :: r => by
    show ((rowsR r).flatMap fun x => f.map fun v => x ++ [v]) = (List.range (prodR r * f.length)).map (chooseR (f :: r))
    rw [range_mul, rowsR_eq r]
    generalize prodR r = N
    induction N with
    | zero => rfl
    | succ N ih =>
      rw [List.range_succ, List.map_append, List.flatMap_append, List.flatMap_append, ih]
      congr 1
      simp only [List.map_cons, List.map_nil, List.flatMap_cons, List.flatMap_nil, List.append_nil]
      rw [map_get]
      refine List.map_congr_left fun i hi => ?_
      have hi := List.mem_range.1 hi
      show _ = chooseR r ((N * f.length + i) / f.length) ++ [(f[(N * f.length + i) % f.length]?).getD ⟨#[]⟩]
      have h0 : 0 < f.length := by omega
      have e1 : (N * f.length + i) / f.length = N := by
        rw [Nat.mul_comm, Nat.mul_add_div h0, Nat.div_eq_of_lt hi]; omega
      have e2 : (N * f.length + i) % f.length = i := by rw [Nat.mul_comm, Nat.mul_add_mod, Nat.mod_eq_of_lt hi]
      rw [e1, e2]
theorem rowsR_len (F : List (List ByteArray)) : (rowsR F).length = prodR F := by rw [rowsR_eq]; simp
theorem rowsR_size : ∀ {F : List (List ByteArray)} {x : List ByteArray}, x ∈ rowsR F → x.length = F.length
  | [], x, h => by rw [List.mem_singleton.1 h]; rfl
  | f :: r, x, h => by
    obtain ⟨y, hy, h2⟩ := List.mem_flatMap.1 h
    obtain ⟨v, _, rfl⟩ := List.mem_map.1 h2
    rw [List.length_append, rowsR_size hy]; rfl
theorem rowsR_mem : ∀ {F : List (List ByteArray)} {x : List ByteArray}, x ∈ rowsR F → ∀ s ∈ x, ∃ f ∈ F, s ∈ f
  | [], x, h, s, hs => by rw [List.mem_singleton.1 h] at hs; cases hs
  | f :: r, x, h, s, hs => by
    obtain ⟨y, hy, h2⟩ := List.mem_flatMap.1 h
    obtain ⟨v, hv, rfl⟩ := List.mem_map.1 h2
    rcases List.mem_append.1 hs with q | q
    · obtain ⟨g, hg, hh⟩ := rowsR_mem hy s q
      exact ⟨g, List.mem_cons_of_mem _ hg, hh⟩
    · rw [List.mem_singleton.1 q]; exact ⟨f, by simp, hv⟩
theorem map_snoc_nodup {f : List ByteArray} (h : f.Nodup) (x : List ByteArray) : (f.map fun v => x ++ [v]).Nodup := by
  refine List.Pairwise.map _ (fun a b q e => q ?_) h
  have := List.append_cancel_left e
  injection this
theorem rowsR_nodup : ∀ {F : List (List ByteArray)}, (∀ f ∈ F, f.Nodup) → (rowsR F).Nodup
  | [], _ => by simp [rowsR]
  | f :: r, h => by
    have ih := rowsR_nodup (F := r) fun g hg => h g (List.mem_cons_of_mem _ hg)
    have hf := h f (by simp)
    show ((rowsR r).flatMap fun x => f.map fun v => x ++ [v]).Nodup
    generalize rowsR r = R at ih
    induction R with
    | nil => simp
    | cons x R ih2 =>
      rw [List.flatMap_cons]
      refine List.nodup_append.2 ⟨map_snoc_nodup hf x, ih2 (List.nodup_cons.1 ih).2, fun a ha b hb e => ?_⟩
      obtain ⟨v, _, rfl⟩ := List.mem_map.1 ha
      obtain ⟨y, hy, h2⟩ := List.mem_flatMap.1 hb
      obtain ⟨u, _, rfl⟩ := List.mem_map.1 h2
      have := (List.append_inj' e rfl).1
      exact (List.nodup_cons.1 ih).1 (this ▸ hy)
theorem seq_inj {a b : List ByteArray} (h : mkM 4 a ≠ ⟨#[]⟩) (e : mkM 4 a = mkM 4 b) : a = b := by
  have h1 := (made (k := 4) (by decide) h).2.1
  have h2 := (made (k := 4) (by decide) (ps := b) (e ▸ h)).2.1
  rw [← h1, ← h2, e]
theorem seqs_nodup {R : List (List ByteArray)} (h : R.Nodup) (hne : ∀ s ∈ R.map (mkM 4), s ≠ ⟨#[]⟩) : (R.map (mkM 4)).Nodup := by
  induction R with
  | nil => simp
  | cons x R ih =>
    rw [List.map_cons] at hne ⊢
    refine List.nodup_cons.2 ⟨fun q => ?_, ih (List.nodup_cons.1 h).2 fun s hs => hne s (List.mem_cons_of_mem _ hs)⟩
    obtain ⟨y, hy, e⟩ := List.mem_map.1 q
    have := seq_inj (hne _ (by simp)) e.symm
    exact (List.nodup_cons.1 h).1 (this ▸ hy)
/-- what Product returns -/
def prodM (l : List ByteArray) : ByteArray × Int :=
  if l.all (isK 5) = false then (⟨#[]⟩, 6)
  else if l.any (fun s => (pt s).isEmpty) = true then (setM [], 0)
  else if 4096 < prodR (l.map pt).reverse then (⟨#[]⟩, 9)
  else bnd ((rowsR (l.map pt).reverse).map (mkM 4))
theorem mkM_size (k : UInt8) (hk : isComp k = true) (ps : List ByteArray) : (mkM k ps).size ≤ 131072 := by
  by_cases h : mkM k ps = ⟨#[]⟩
  · rw [h]; decide
  · exact (tree_val (Nat.le_refl _) (isK_valid (made hk h).1).1).2.2

end Go.Proofs.YtkdlmgahkckjbaaGreat
