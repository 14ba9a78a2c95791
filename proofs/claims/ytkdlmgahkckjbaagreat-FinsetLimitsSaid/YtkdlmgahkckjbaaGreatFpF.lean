/- The program's Product. Conditions: the strings are at most 2^48 bytes, the slice at most 2^62 long. -/
import Derived.Test.YtkdlmgahkckjbaaGreatFpE
import Derived.Test.YtkdlmgahkckjbaaGreatFnF
namespace Go.Proofs.YtkdlmgahkckjbaaGreat
open Go.RowKit Go.Shelf VM

theorem Facs.up {n₀ n₁ : Nat} {W : World} {b : Nat} {zs : List SV} {fs : List (List ByteArray)} (h : Facs n₀ W b zs fs) (hn : n₀ ≤ n₁) : Facs n₁ W b zs fs :=
  ⟨Nat.lt_of_lt_of_le h.lt hn, h.cells, fun j hj => by
    obtain ⟨h1, h2, h4, h3⟩ := h.fac j hj
    refine ⟨h1, h2, h4, fun i u hu => ?_⟩
    obtain ⟨g, off, h5, h6, h7⟩ := h3 i u hu
    exact ⟨g, off, h5, Nat.lt_of_lt_of_le h6 hn, h7⟩⟩
theorem sl_info : (Tryz.prog.info? 22).map (fun i => (i.zero, i.size, i.bytes)) = some (some (.slice none 0 0), 1, 24) := by kernel_rfl
/-! sets without elements -/
theorem nil_set : isK 5 (setM []) = true ∧ pt (setM []) = [] := by
  have h := setM_ok (d := 1) (by decide) (l := []) (fun s h => by cases h) (by decide)
  have := made_set h.2
  exact ⟨this.1, this.2.1⟩
theorem empty_set {s : ByteArray} (h : isK 5 s = true) : (pt s).isEmpty = decide (s = setM []) := by
  rw [Bool.eq_iff_iff, decide_eq_true_eq, List.isEmpty_iff]
  constructor
  · intro q
    have := (pt_set h).2
    rw [q] at this
    exact this.symm
  · rintro rfl; exact nil_set.2
theorem has_empty {ls : List ByteArray} (h : ls.all (isK 5) = true) : hasB (setM []) ls = ls.any fun s => (pt s).isEmpty := by
  rw [Bool.eq_iff_iff, hasB_iff, List.any_eq_true]
  constructor
  · intro q
    exact ⟨_, q, by rw [nil_set.2]; rfl⟩
  · rintro ⟨s, hs, q⟩
    rw [empty_set (List.all_eq_true.1 h s hs), decide_eq_true_eq] at q
    exact q ▸ hs
/-! the number of rows of the first factors -/
def pfx (ls : List ByteArray) (i : Nat) : Nat := prodR ((ls.take i).map pt).reverse
theorem pfx_zero (ls : List ByteArray) : pfx ls 0 = 1 := rfl
theorem pfx_succ {ls : List ByteArray} {i : Nat} {s : ByteArray} (h : ls[i]? = some s) : pfx ls (i + 1) = pfx ls i * (pt s).length := by
  unfold pfx
  rw [List.take_add_one, h, List.map_append, List.reverse_append]
  rfl
theorem pfx_all (ls : List ByteArray) : pfx ls ls.length = prodR (ls.map pt).reverse := by unfold pfx; rw [List.take_length]
theorem pfx_mono {ls : List ByteArray} (h : (ls.any fun s => (pt s).isEmpty) = false) {i : Nat} : ∀ k, i + k ≤ ls.length → pfx ls i ≤ pfx ls (i + k)
  | 0, _ => Nat.le_refl _
  | k + 1, hk => by
    refine Nat.le_trans (pfx_mono h k (by omega)) ?_
    obtain ⟨s, hs⟩ : ∃ s, ls[i + k]? = some s := ⟨_, List.getElem?_eq_getElem (by omega)⟩
    rw [show i + (k + 1) = i + k + 1 by omega, pfx_succ hs]
    have h2 := List.any_eq_false.1 h s (List.mem_of_getElem? hs)
    have h3 : 0 < (pt s).length := by
      rcases hp : pt s with _ | ⟨a, r⟩
      · rw [hp] at h2; exact absurd rfl h2
      · simp
    exact Nat.le_mul_of_pos_right _ h3
theorem pfx_pos {ls : List ByteArray} (h : (ls.any fun s => (pt s).isEmpty) = false) {i : Nat} (hi : i ≤ ls.length) : 1 ≤ pfx ls i := by
  have := pfx_mono h (i := 0) i (by omega)
  rw [pfx_zero, Nat.zero_add] at this
  exact this
theorem long_row {x : List ByteArray} (h : 65536 < x.length) : mkM 4 x = ⟨#[]⟩ := by
  by_cases q : mkM 4 x = ⟨#[]⟩
  · exact q
  · have h1 := (made (k := 4) (by decide) q).2.1
    have h2 := pt_len (mkM 4 x)
    rw [h1] at h2
    omega
theorem prodM_type {ls : List ByteArray} (h : ls.all (isK 5) = false) : prodM ls = (⟨#[]⟩, 6) := by unfold prodM; rw [if_pos h]
theorem prodM_empty {ls : List ByteArray} (h : ls.all (isK 5) = true) (h2 : (ls.any fun s => (pt s).isEmpty) = true) : prodM ls = (setM [], 0) := by
  unfold prodM; rw [if_neg (by rw [h]; decide), if_pos h2]
theorem prodM_over {ls : List ByteArray} (h : ls.all (isK 5) = true) (h2 : (ls.any fun s => (pt s).isEmpty) = false) {i : Nat} (hi : i ≤ ls.length) (h3 : 4096 < pfx ls i) : prodM ls = (⟨#[]⟩, 9) := by
  have := pfx_mono h2 (i := i) (ls.length - i) (by omega)
  rw [show i + (ls.length - i) = ls.length by omega, pfx_all] at this
  unfold prodM
  rw [if_neg (by rw [h]; decide), if_neg (by rw [h2]; decide), if_pos (by omega)]
theorem prodM_long {ls : List ByteArray} (h : ls.all (isK 5) = true) (h2 : (ls.any fun s => (pt s).isEmpty) = false) (h3 : 65536 < ls.length) : prodM ls = (⟨#[]⟩, 9) := by
  unfold prodM
  rw [if_neg (by rw [h]; decide), if_neg (by rw [h2]; decide)]
  split
  · rfl
  · have hp := pfx_pos h2 (Nat.le_refl _)
    rw [pfx_all] at hp
    have hr := rowsR_len (ls.map pt).reverse
    obtain ⟨x, hx⟩ : ∃ x, x ∈ rowsR (ls.map pt).reverse := List.exists_mem_of_length_pos (by omega)
    have hl := rowsR_size hx
    rw [List.length_reverse, List.length_map] at hl
    have he : (⟨#[]⟩ : ByteArray) ∈ (rowsR (ls.map pt).reverse).map (mkM 4) := List.mem_map.2 ⟨x, hx, long_row (by omega)⟩
    exact bnd_over (fun q => absurd rfl (q _ he)) (.inl he)
theorem prodM_fits {ls : List ByteArray} (h : ls.all (isK 5) = true) (h2 : (ls.any fun s => (pt s).isEmpty) = false) (h3 : ¬ 4096 < prodR (ls.map pt).reverse) : prodM ls = bnd ((rowsR (ls.map pt).reverse).map (mkM 4)) := by
  unfold prodM
  rw [if_neg (by rw [h]; decide), if_neg (by rw [h2]; decide), if_neg h3]
theorem pt_nodup {s : ByteArray} (h : isK 5 s = true) : (pt s).Nodup := by
  refine sortM_nodup.1 ?_
  rw [sortM_self (pt_set h).1]
set_option maxHeartbeats 1000000 in
theorem choices_any (A : Option Addr) (len cap : Nat) (N : Int) (w : World) : Calls Tryz.prog 22 #[.slice A len cap, .int .i64 N] w fun e w' =>
    e = .returned (.func (.func 44) #[] #[.pointer (some ⟨w.heap.size, 0, none⟩), .pointer (some ⟨w.heap.size + 1, 0, none⟩)]) ∧ w' = (w.alloc (.cells #[.slice A len cap] 44)).alloc (.cells #[.int .i64 N] 3) := by
  refine (callsIn_wide (n := 1)).1 (callsIn_of_wp Tryz.func22 rfl trivial ?_ rfl)
  simp only [Tryz.ntmps22, List.size_toArray, List.length_cons, List.length_nil, Nat.reduceAdd, Nat.reduceSub, Array.replicate_succ, Array.replicate_zero, List.push_toArray, List.append_toArray, List.nil_append, List.cons_append]
  gi_wp2
  go_ret
  exact ⟨rfl, rfl⟩
/-- a row of nil slices -/
def sv0A (n : Nat) : Array Value := (List.replicate n (Value.slice none 0 0)).toArray
theorem sv0A_made (n : Nat) : madeCells (Value.slice none 0 0).cells (n * 1) = sv0A n := by
  apply Array.toList_inj.1
  show (madeCells #[.slice none 0 0] (n * 1)).toList = _
  rw [toList_madeCells_one, Nat.mul_one]
  rfl
/-- between two sets of the second loop -/
structure PrI (w : World) (F : Nat) (ls : List ByteArray) (j : Nat) (X : World) : Prop where
  b : Below w.heap.size w X
  lt : w.heap.size ≤ F
  row : ∃ (cur : Array Value) (zs : List SV), Blk X F 22 cur ∧ cur.size = ls.length ∧ zs.length = ls.length ∧ (∀ t, t < ls.length → cur[t]? = some (svV (zs[t]?.getD sv0))) ∧
    ∀ t, t < j → (zs[t]?.getD sv0).2.1 = (pt (ls[t]?.getD ⟨#[]⟩)).length ∧ ∀ i u, (pt (ls[t]?.getD ⟨#[]⟩))[i]? = some u → ∃ g off, (zs[t]?.getD sv0).1 = some ⟨g, off, none⟩ ∧ g < X.heap.size ∧ g ≠ F ∧ X.cell? ⟨g, off + i, none⟩ = some (.string u)
theorem PrI.step {w X Y : World} {F j : Nat} {ls : List ByteArray} (h : PrI w F ls j X) (hj : j < ls.length) {u : ByteArray} (hu : ls[j]? = some u) {B : Option Addr} {n c : Nat} (hn : n = (pt u).length)
    (hO : Y.ownsRow X.heap.size 27 1 (.slice B n c) n ((pt u).map Value.string)) (hb : Below X.heap.size X Y) : PrI w F ls (j + 1) (Y.setCell ⟨F, j, none⟩ (.slice B n c)) := by
  obtain ⟨cur, zs, h1, h2, h3, h4, h5⟩ := h.row
  have hFX := h1.lt
  have k1 := (h1.below hb hFX).set_ j (.slice B n c)
  have ho : ∀ k, k ≠ F → (Y.setCell ⟨F, j, none⟩ (.slice B n c)).heap[k]? = Y.heap[k]? := fun k hk => Below.heap_setCell Y _ _ k hk
  have hk : ∀ g o, g ≠ F → (Y.setCell ⟨F, j, none⟩ (.slice B n c)).cell? ⟨g, o, none⟩ = Y.cell? ⟨g, o, none⟩ := fun g o hg => World.cell?_of_block (ho g hg)
  have hs : (Y.setCell ⟨F, j, none⟩ (.slice B n c)).heap.size = Y.heap.size := by simp [World.setCell]
  refine ⟨(h.b.trans (hb.mono h.b.size)).setCell (p := ⟨F, j, none⟩) h.lt _, h.lt, _, zs.set j (B, n, c), k1, by rw [Array.size_setIfInBounds, h2], by simp [h3], fun t ht => ?_, fun t ht => ?_⟩
  · by_cases e : t = j
    · subst e
      rw [Array.getElem?_setIfInBounds_self_of_lt (by omega), List.getElem?_set_self (by omega)]
      rfl
    · rw [Array.getElem?_setIfInBounds_ne (by omega), List.getElem?_set_ne (by omega)]
      exact h4 t ht
  · by_cases e : t = j
    · subst e
      rw [List.getElem?_set_self (by omega), hu]
      refine ⟨hn, fun i v hv => ?_⟩
      rcases hO.2 with ⟨_, h0⟩ | ⟨g, cap, cur2, e2, hg, hgb, _⟩
      · have := (List.getElem?_eq_some_iff.1 hv).1
        have h6 : (pt u).length ≤ i := by rw [← hn, h0]; exact Nat.zero_le _
        exact absurd this (by show ¬ i < (pt u).length; omega)
      · injection e2 with e3 _ _
        refine ⟨g, 0, e3, by rw [hs]; exact lt_of_some hgb, by omega, ?_⟩
        rw [hk g _ (by omega), Nat.zero_add]
        have h7 := hO.cells (g := g) (by rw [e3]; rfl) i (.string v) (by rw [List.getElem?_map]; exact congrArg (Option.map Value.string) hv)
        rwa [add_at, Nat.zero_add] at h7
    · rw [List.getElem?_set_ne (by omega)]
      obtain ⟨q1, q2⟩ := h5 t (by omega)
      refine ⟨q1, fun i v hv => ?_⟩
      obtain ⟨g, off, q3, q4, q5, q6⟩ := q2 i v hv
      exact ⟨g, off, q3, by rw [hs]; have := hb.size; omega, q5, by rw [hk g _ q5]; exact (hb.cell (p := ⟨g, off + i, none⟩) q4).trans q6⟩
theorem PrI.start {w X : World} (ls : List ByteArray) (hb : Below w.heap.size w X) : PrI w X.heap.size ls 0 (X.alloc (.cells (sv0A ls.length) 22)) :=
  ⟨hb.alloc hb.size _, hb.size, sv0A ls.length, List.replicate ls.length sv0, Blk.new X _ _, by simp [sv0A], by simp, fun t ht => by simp [sv0A, ht, svV, sv0], fun t ht => by omega⟩
theorem PrI.facs {w X : World} {F : Nat} {ls : List ByteArray} (h : PrI w F ls ls.length X) (h2 : (ls.any fun s => (pt s).isEmpty) = false) : ∃ zs, Facs X.heap.size X F zs (ls.map pt) := by
  obtain ⟨cur, zs, k1, k2, k3, k4, k5⟩ := h.row
  refine ⟨zs, k1.lt, fun j hj => ?_, fun j hj => ?_⟩
  · rw [List.length_map] at hj
    rw [k1.cell]
    exact k4 j hj
  · rw [List.length_map] at hj
    obtain ⟨s, hs⟩ : ∃ s, ls[j]? = some s := ⟨_, List.getElem?_eq_getElem hj⟩
    obtain ⟨q1, q2⟩ := k5 j hj
    rw [List.getElem?_map, hs]
    rw [hs] at q1 q2
    have h3 := List.any_eq_false.1 h2 s (List.mem_of_getElem? hs)
    have h4 := pt_len s
    refine ⟨q1, ?_, h4, fun i u hu => ?_⟩
    · show 0 < (pt s).length
      rcases hp : pt s with _ | ⟨a, r⟩
      · rw [hp] at h3; exact absurd rfl h3
      · simp
    · obtain ⟨g, off, q3, q4, _, q6⟩ := q2 i u hu
      exact ⟨g, off, q3, q4, q6⟩

end Go.Proofs.YtkdlmgahkckjbaaGreat
