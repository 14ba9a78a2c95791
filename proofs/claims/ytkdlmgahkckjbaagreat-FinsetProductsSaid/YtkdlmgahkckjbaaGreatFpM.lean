/- Rows of rows of strings that a call has made. No conditions. -/
import Derived.Test.YtkdlmgahkckjbaaGreatFpF
import Derived.Test.YtkdlmgahkckjbaaGreatVgM
namespace Go.Proofs.YtkdlmgahkckjbaaGreat
open Go.RowKit Go.Shelf VM

/-- a row of rows -/
def RowsM (b : Nat) (W : World) (v : Value) (n : Nat) (R : List (List ByteArray)) : Prop :=
  ∃ zs : List SV, zs.length = n ∧ n = R.length ∧ W.ownsRow b 22 1 v n (zs.map svV) ∧ ∀ (k : Nat) (x : List ByteArray) (z : SV), R[k]? = some x → zs[k]? = some z → z.2.1 = x.length ∧ W.ownsRow b 27 1 (svV z) x.length (x.map Value.string)
theorem RowsM.nil (b : Nat) (W : World) : RowsM b W (.slice none 0 0) 0 [] := ⟨[], rfl, rfl, World.ownsRow_nil _ _ _ _, fun k x z h => by simp at h⟩
theorem RowsM.one {b g : Nat} {W : World} (hb : b ≤ g) (h : Blk W g 22 #[.slice none 0 0]) : RowsM b W (.slice (some ⟨g, 0, none⟩) 1 1) 1 [[]] :=
  ⟨[sv0], rfl, rfl, ⟨rfl, .inr ⟨g, 1, _, rfl, hb, h, Nat.le_refl _, by unfold maxLen; decide, rfl, rfl⟩⟩, fun k x z hx hz => by
    obtain rfl : k = 0 := by
      have := (List.getElem?_eq_some_iff.1 hx).1
      simp at this; omega
    have ex : x = [] := by simpa using hx.symm
    have ez : z = sv0 := by simpa using hz.symm
    subst ex ez
    exact ⟨rfl, World.ownsRow_nil _ _ _ _⟩⟩
section
variable {b b' n k : Nat} {W W' : World} {v : Value} {R : List (List ByteArray)}
theorem RowsM.below (h : RowsM b W v n R) (hb : Below W.heap.size W W') : RowsM b W' v n R := by
  obtain ⟨zs, h0, h1, h2, h3⟩ := h
  exact ⟨zs, h0, h1, owns_below h2 hb, fun k x z hx hz => ⟨(h3 k x z hx hz).1, owns_below (h3 k x z hx hz).2 hb⟩⟩
theorem RowsM.base (h : RowsM b W v n R) (hb : b' ≤ b) : RowsM b' W v n R := by
  obtain ⟨zs, h0, h1, h2, h3⟩ := h
  exact ⟨zs, h0, h1, owns_base h2 hb, fun k x z hx hz => ⟨(h3 k x z hx hz).1, owns_base (h3 k x z hx hz).2 hb⟩⟩
theorem RowsM.form (h : RowsM b W v n R) : ∃ A c, v = .slice A n c := by
  obtain ⟨zs, h0, h1, h2, h3⟩ := h
  exact owns_form h2
theorem RowsM.len (h : RowsM b W v n R) : n = R.length := by obtain ⟨zs, h0, h1, h2, h3⟩ := h; exact h1
theorem RowsM.get {A : Option Addr} {c : Nat} {x : List ByteArray} (h : RowsM b W (.slice A n c) n R) (hk : R[k]? = some x) :
    ∃ (g : Nat) (zA : Option Addr) (zc : Nat), A = some ⟨g, 0, none⟩ ∧ g < W.heap.size ∧ W.cell? ⟨g, k, none⟩ = some (.slice zA x.length zc) ∧ InC W zA (x.map Value.string) := by
  obtain ⟨zs, h0, h1, h2, h3⟩ := h
  have hlt := (List.getElem?_eq_some_iff.1 hk).1
  obtain ⟨z, hz⟩ : ∃ z, zs[k]? = some z := ⟨_, List.getElem?_eq_getElem (by omega)⟩
  obtain ⟨zA, zn, zc⟩ := z
  obtain ⟨h4, h5⟩ := h3 k x _ hk hz
  dsimp only at h4
  subst h4
  obtain ⟨g, c', e, _, hg, _, hc⟩ := owns_cell h2 (by omega)
  injection e with e1 e2 e3
  subst e1
  exact ⟨g, zA, zc, rfl, hg, hc k _ (by rw [List.getElem?_map, hz]; rfl), InC.own h5⟩
/-- one row more -/
theorem RowsM.app {m c : Nat} {v' : Value} {A : Option Addr} {y : List ByteArray} {zs : List SV} (h0 : zs.length = n) (h1 : n = R.length) (h2 : W.ownsRow b 22 1 v n (zs.map svV))
    (h3 : ∀ (k : Nat) (x : List ByteArray) (z : SV), R[k]? = some x → zs[k]? = some z → z.2.1 = x.length ∧ W.ownsRow b 27 1 (svV z) x.length (x.map Value.string))
    (hy : W.ownsRow b 27 1 (.slice A m c) m (y.map Value.string)) (ho : W'.ownsRow b 22 1 v' (n + 1) (zs.map svV ++ [.slice A m c])) (hg : W.grownBy W' v.ownBlock) : RowsM b W' v' (n + 1) (R ++ [y]) := by
  have hm : m = y.length := by have := owns_len hy; rw [List.length_map, Nat.mul_one] at this; exact this.symm
  subst hm
  have keep : ∀ {u : Value} {m : Nat} {ys : List Value}, W.ownsRow b 27 1 u m ys → W'.ownsRow b 27 1 u m ys := fun hu => owns_other hu hg fun k hk => own_own_ne hu h2 (by decide) k hk
  refine ⟨zs ++ [(A, y.length, c)], by simp [h0], by simp [h1], ?_, fun k x z hx hz => ?_⟩
  · rw [List.map_append]
    exact ho
  · by_cases hk : k < R.length
    · rw [List.getElem?_append_left hk] at hx
      rw [List.getElem?_append_left (by omega)] at hz
      exact ⟨(h3 k x z hx hz).1, keep (h3 k x z hx hz).2⟩
    · have hk2 : k = R.length := by
        have := (List.getElem?_eq_some_iff.1 hx).1
        simp at this; omega
      subst hk2
      have ex : x = y := by simpa using hx.symm
      have ez : z = (A, y.length, c) := by rw [show R.length = zs.length by omega] at hz; simpa using hz.symm
      subst ex ez
      exact ⟨rfl, keep hy⟩
end
/-- a row being made behind world w0 -/
structure OneA (w0 W : World) (v : Value) (m : Nat) (xs : List Value) : Prop where
  below : Below w0.heap.size w0 W
  own : W.ownsRow w0.heap.size 27 1 v m xs
theorem OneA.alloc {w0 W : World} {v : Value} {m : Nat} {xs : List Value} (h : OneA w0 W v m xs) (o : Obj) : OneA w0 (W.alloc o) v m xs := ⟨h.below.alloc h.below.size o, h.own.alloc o⟩
/-- a literal with one string beside it -/
theorem lit_at {W : World} {g : Nat} {t : TypeId} {u : Value} (h : Blk W g t #[u]) : InC W (some ⟨g, 0, none⟩) [u] :=
  .inr ⟨g, 0, rfl, h.lt, fun i v hv => by rw [Nat.zero_add, h.cell]; simpa using hv⟩
theorem one_sl (A : Option Addr) (n c : Nat) : ∀ x ∈ [Value.slice A n c], x.oneCell' = true := fun x hx => by rw [List.mem_singleton.1 hx]; rfl
theorem strs_one' (l : List ByteArray) : ∀ x ∈ l.map Value.string, x.oneCell' = true := fun x hx => by obtain ⟨s, _, rfl⟩ := List.mem_map.1 hx; rfl
theorem any_step {f : ByteArray → Bool} {ps : List ByteArray} {j : Nat} {u : ByteArray} (h : ps[j]? = some u) : (ps.drop j).any f = (f u || (ps.drop (j + 1)).any f) := by
  obtain ⟨hj, rfl⟩ := List.getElem?_eq_some_iff.1 h
  rw [List.drop_eq_getElem_cons hj, List.any_cons]
/-! the rows of the reference -/
def RW (ls : List ByteArray) (i : Nat) : List (List ByteArray) := rowsR ((ls.take i).map pt).reverse
theorem RW_zero (ls : List ByteArray) : RW ls 0 = [[]] := rfl
def NX (R : List (List ByteArray)) (m : List ByteArray) (k : Nat) : List (List ByteArray) := (R.take k).flatMap fun x => m.map fun v => x ++ [v]
theorem RW_succ {ls : List ByteArray} {i : Nat} {s : ByteArray} (h : ls[i]? = some s) : RW ls (i + 1) = NX (RW ls i) (pt s) (RW ls i).length := by
  unfold RW NX
  rw [List.take_length, List.take_add_one, h, List.map_append, List.reverse_append]
  rfl
theorem RW_len (ls : List ByteArray) (i : Nat) : (RW ls i).length = pfx ls i := rowsR_len _
theorem NX_zero (R : List (List ByteArray)) (m : List ByteArray) : NX R m 0 = [] := rfl
theorem NX_succ {R : List (List ByteArray)} {m : List ByteArray} {k : Nat} {x : List ByteArray} (h : R[k]? = some x) : NX R m (k + 1) = NX R m k ++ m.map fun v => x ++ [v] := by
  unfold NX
  rw [List.take_add_one, h, List.flatMap_append]
  simp
theorem NX_pre (R : List (List ByteArray)) (m : List ByteArray) (k : Nat) : (NX R m k).length ≤ (NX R m R.length).length := by
  unfold NX
  rw [List.take_length]
  conv => rhs; rw [← List.take_append_drop k R, List.flatMap_append, List.length_append]
  omega
def NJ (R : List (List ByteArray)) (m : List ByteArray) (k : Nat) (x : List ByteArray) (j : Nat) : List (List ByteArray) := NX R m k ++ (m.take j).map fun v => x ++ [v]
theorem NJ_zero (R : List (List ByteArray)) (m : List ByteArray) (k : Nat) (x : List ByteArray) : NJ R m k x 0 = NX R m k := by unfold NJ; simp
theorem NJ_succ {R : List (List ByteArray)} {m : List ByteArray} {k j : Nat} {x : List ByteArray} {u : ByteArray} (h : m[j]? = some u) : NJ R m k x (j + 1) = NJ R m k x j ++ [x ++ [u]] := by
  unfold NJ
  rw [List.take_add_one, h, List.map_append, List.append_assoc]
  rfl
theorem NJ_all {R : List (List ByteArray)} {m : List ByteArray} {k : Nat} {x : List ByteArray} (h : R[k]? = some x) : NJ R m k x m.length = NX R m (k + 1) := by
  unfold NJ
  rw [List.take_length, NX_succ h]
theorem NJ_over {R : List (List ByteArray)} {m : List ByteArray} {k j : Nat} {x : List ByteArray} (h : R[k]? = some x) (hj : j < m.length) : (NJ R m k x j).length < (NX R m R.length).length := by
  refine Nat.lt_of_lt_of_le ?_ (NX_pre R m (k + 1))
  rw [NX_succ h]
  unfold NJ
  rw [List.length_append, List.length_append, List.length_map, List.length_map, List.length_take]
  omega
theorem RW_row {ls : List ByteArray} {i : Nat} {x : List ByteArray} (h : x ∈ RW ls i) : x.length ≤ ls.length := by
  have := rowsR_size h
  rw [List.length_reverse, List.length_map, List.length_take] at this
  omega
theorem RW_str {ls : List ByteArray} {i : Nat} {x : List ByteArray} (h : x ∈ RW ls i) : ∀ s ∈ x, s.size ≤ 281474976710656 := fun s hs => by
  obtain ⟨f, hf, hs2⟩ := rowsR_mem h s hs
  obtain ⟨u, _, rfl⟩ := List.mem_map.1 (List.mem_reverse.1 hf)
  exact pt_size48 u s hs2

end Go.Proofs.YtkdlmgahkckjbaaGreat
