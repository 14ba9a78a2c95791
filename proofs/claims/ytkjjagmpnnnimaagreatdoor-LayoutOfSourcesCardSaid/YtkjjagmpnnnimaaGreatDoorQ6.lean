/- Words for a state in memory: what a call keeps, and which blocks are the state's own. No conditions. Two rows of the same tokens are equal; how many tokens a scan returns. Tokens that lie in a slice. No conditions. -/
import Derived.Test.YtkjjagmpnnnimaaGreatDoorQ5
namespace Go.Proofs.YtkjjagmpnnnimaaGreatDoor
open Go.RowKit M

/-- the blocks of Pr are as they were -/
structure Keep (Pr : Nat → Prop) (w w' : World) : Prop where
  os : w'.os = w.os
  tape : w'.tape = w.tape
  output : w'.output = w.output
  size : w.heap.size ≤ w'.heap.size
  block : ∀ k, Pr k → w'.heap[k]? = w.heap[k]?

section
variable {Pr Pr' : Nat → Prop} {w w' w'' a : World}
theorem Keep.refl (Pr : Nat → Prop) (w : World) : Keep Pr w w := ⟨rfl, rfl, rfl, Nat.le_refl _, fun _ _ => rfl⟩
theorem Keep.trans (h : Keep Pr a w) (k : Keep Pr w w') : Keep Pr a w' :=
  ⟨k.os.trans h.os, k.tape.trans h.tape, k.output.trans h.output, Nat.le_trans h.size k.size, fun i hi => (k.block i hi).trans (h.block i hi)⟩
theorem Keep.mono (h : Keep Pr a w) (hp : ∀ k, Pr' k → Pr k) : Keep Pr' a w := ⟨h.os, h.tape, h.output, h.size, fun k hk => h.block k (hp k hk)⟩
theorem Keep.alloc (h : Keep Pr a w) (hp : ∀ k, Pr k → k < a.heap.size) (o : Obj) : Keep Pr a (w.alloc o) :=
  ⟨h.os, h.tape, h.output, Nat.le_trans h.size (by simp), fun i hi => (Below.heap_alloc w o i (Nat.lt_of_lt_of_le (hp i hi) h.size)).trans (h.block i hi)⟩
theorem Keep.setCell (h : Keep Pr a w) {p : Addr} (hp : ¬ Pr p.block) (u : Value) : Keep Pr a (w.setCell p u) :=
  ⟨h.os, h.tape, h.output, by simpa [World.setCell] using h.size, fun i hi => (Below.heap_setCell w p u i (fun e => hp (by rw [← e]; exact hi))).trans (h.block i hi)⟩
theorem Keep.drew (h : Keep Pr a w) : Keep Pr a w.drew := ⟨h.os, h.tape, h.output, h.size, h.block⟩
theorem Keep.drewN (h : Keep Pr a w) (n : Nat) : Keep Pr a (w.drewN n) := ⟨h.os, h.tape, h.output, h.size, h.block⟩
theorem Keep.grown {row : Option Nat} (h : Keep Pr a w) (k : w.grownBy w' row) (hp : ∀ k, Pr k → k < a.heap.size) (hr : ∀ k, row = some k → ¬ Pr k) : Keep Pr a w' :=
  ⟨k.os.trans h.os, k.tape.trans h.tape, k.output.trans h.output, Nat.le_trans h.size k.size, fun i hi => (k.block i (Nat.lt_of_lt_of_le (hp i hi) h.size) (fun e => hr i e.symm hi)).trans (h.block i hi)⟩
theorem Keep.below {B : Nat} (h : Below B w w') (hp : ∀ k, Pr k → k < B) : Keep Pr w w' := ⟨h.os, h.tape, h.output, h.size, fun k hk => h.block k (hp k hk)⟩
theorem Keep.to_below {B : Nat} (h : Keep (· < B) w w') : Below B w w' := ⟨h.os, h.tape, h.output, h.size, h.block⟩
theorem Keep.cell (h : Keep Pr w w') {b : Nat} (hb : Pr b) (o : Nat) : w'.cell? ⟨b, o, none⟩ = w.cell? ⟨b, o, none⟩ := World.cell?_of_block (h.block b hb)
theorem Keep.frozen (h : Keep Pr w w') {b : Nat} (hb : Pr b) (o : Nat) : w'.frozen? ⟨b, o, none⟩ = w.frozen? ⟨b, o, none⟩ := by
  simp [World.frozen?, h.block b hb]
end

/-- a block that is known whole -/
def Blk (w : World) (g : Nat) (t : TypeId) (cs : Array Value) : Prop := w.heap[g]? = some (.cells cs t (0, 0))
section
variable {w w' : World} {g : Nat} {t : TypeId} {cs : Array Value}
theorem Blk.lt (h : Blk w g t cs) : g < w.heap.size := lt_of_some h
theorem Blk.cell (h : Blk w g t cs) (i : Nat) : w.cell? ⟨g, i, none⟩ = cs[i]? := cell_of_row w g i cs t (0, 0) h
theorem Blk.frozen (h : Blk w g t cs) (i : Nat) : w.frozen? ⟨g, i, none⟩ = false := by
  unfold Blk at h
  simp [World.frozen?, h]
theorem Blk.new (w : World) (t : TypeId) (cs : Array Value) : Blk (w.alloc (.cells cs t)) w.heap.size t cs := heap_alloc_new w _
theorem Blk.drew (h : Blk w g t cs) : Blk w.drew g t cs := h
theorem Blk.drewN (h : Blk w g t cs) (n : Nat) : Blk (w.drewN n) g t cs := h
theorem Blk.alloc (h : Blk w g t cs) (o : Obj) : Blk (w.alloc o) g t cs := (Below.heap_alloc w o g h.lt).trans h
theorem Blk.set_ (h : Blk w g t cs) (i : Nat) (u : Value) : Blk (w.setCell ⟨g, i, none⟩ u) g t (cs.setIfInBounds i u) := by
  unfold Blk at h ⊢
  simp [World.setCell, Array.getElem?_modify, h]
theorem Blk.far (h : Blk w g t cs) {p : Addr} (hp : g ≠ p.block) (u : Value) : Blk (w.setCell p u) g t cs := (Below.heap_setCell w p u g hp).trans h
theorem Blk.grown {row : Option Nat} (h : Blk w g t cs) (hb : w.grownBy w' row) (hg : some g ≠ row) : Blk w' g t cs := (hb.block g h.lt hg).trans h
theorem Blk.keep {Pr : Nat → Prop} (h : Blk w g t cs) (hb : Keep Pr w w') (hg : Pr g) : Blk w' g t cs := (hb.block g hg).trans h
theorem Blk.ne_ {g' : Nat} {t' : TypeId} {cs' : Array Value} (h : Blk w g t cs) (h' : Blk w g' t' cs') (hne : t ≠ t') : g ≠ g' := by
  rintro rfl
  unfold Blk at h h'
  rw [h] at h'
  injection h' with h'
  injection h' with _ ht
  exact hne ht
theorem own_blk_ne {base : Nat} {e : TypeId} {size n : Nat} {v : Value} {xs : List Value} (h : w.ownsRow base e size v n xs) (hg : Blk w g t cs) (hne : e ≠ t) : v.ownBlock ≠ some g := by
  rcases h.2 with ⟨rfl, _⟩ | ⟨g', cap, cur, rfl, _, hh, _⟩
  · simp [Value.ownBlock]
  · intro he
    have : g' = g := by simpa [Value.ownBlock] using he
    subst this
    exact Blk.ne_ (t := e) hh hg hne rfl
end
/-- two rows of different element types never share a block -/
theorem own_own_ne {w : World} {b b' : Nat} {e e' : TypeId} {z z' n n' : Nat} {v v' : Value} {xs xs' : List Value} (h : w.ownsRow b e z v n xs) (h' : w.ownsRow b' e' z' v' n' xs') (hne : e ≠ e') :
    ∀ k, v.ownBlock = some k → v'.ownBlock ≠ some k := by
  intro k hk
  rcases h.2 with ⟨rfl, _⟩ | ⟨g, cap, cur, rfl, _, hh, _⟩
  · simp [Value.ownBlock] at hk
  · have : g = k := by simpa [Value.ownBlock] using hk
    subst this
    exact own_blk_ne h' hh (fun e => hne e.symm)
theorem owns_keep {Pr : Nat → Prop} {w w' : World} {b : Nat} {e : TypeId} {z : Nat} {v : Value} {n : Nat} {xs : List Value} (h : w.ownsRow b e z v n xs) (hk : Keep Pr w w') (hp : ∀ k, v.ownBlock = some k → Pr k) : w'.ownsRow b e z v n xs := by
  obtain ⟨h1, h2⟩ := h
  refine ⟨h1, ?_⟩
  rcases h2 with h2 | ⟨g, cap, cur, rfl, a, c, d⟩
  · exact .inl h2
  · have hg : Pr g := hp g (by simp [Value.ownBlock])
    exact .inr ⟨g, cap, cur, rfl, a, (hk.block g hg).trans c, d⟩
/-- the row cut to its first m elements -/
theorem owns_take {w : World} {b : Nat} {e : TypeId} {z g n c : Nat} {xs : List Value} (h : w.ownsRow b e z (.slice (some ⟨g, 0, none⟩) n c) n xs) (m : Nat) (hm : m ≤ n) :
    w.ownsRow b e z (.slice (some ⟨g, 0, none⟩) m c) m (xs.take (m * z)) := by
  obtain ⟨h1, h2⟩ := h
  refine ⟨?_, ?_⟩
  · rw [List.length_take, h1]; have := Nat.mul_le_mul_right z hm; omega
  · rcases h2 with ⟨h, _⟩ | ⟨g', cap, cur, hv, a, c', d, r, q, hx⟩
    · cases h
    · injection hv with hv1 hv2 hv3
      injection hv1 with hv1
      injection hv1 with hv1
      subst hv1 hv3
      refine .inr ⟨_, _, cur, rfl, a, c', by omega, r, q, ?_⟩
      rw [← hx, List.take_take]
      have := Nat.mul_le_mul_right z hm
      rw [Nat.min_eq_left this]

end Go.Proofs.YtkjjagmpnnnimaaGreatDoor

namespace Go.Proofs.YtkjjagmpnnnimaaGreatDoor
open Go.RowKit M

theorem toks_at (ts : List Tok) : ∀ (k : Nat) (t : Tok), ts[k]? = some t → ∀ j u, (tokCells t)[j]? = some u → (toksCells ts)[k * 5 + j]? = some u := by
  induction ts with
  | nil => intro k t h; simp at h
  | cons a r ih =>
    intro k t h j u hu
    have e : toksCells (a :: r) = tokCells a ++ toksCells r := rfl
    have hl : (tokCells a).length = 5 := rfl
    rw [e]
    cases k with
    | zero =>
      simp at h
      subst h
      have hj : j < 5 := by
        have := List.getElem?_eq_some_iff.1 hu
        obtain ⟨h1, _⟩ := this
        exact h1
      rw [Nat.zero_mul, Nat.zero_add, List.getElem?_append_left (by rw [hl]; exact hj)]
      exact hu
    | succ k =>
      have e2 : (k + 1) * 5 + j = 5 + (k * 5 + j) := by omega
      rw [e2, List.getElem?_append_right (by omega), hl, Nat.add_sub_cancel_left]
      exact ih k t (by simpa using h) j u hu

set_option maxRecDepth 100000 in
set_option maxHeartbeats 1000000 in
theorem equal_tokens (ts : List Tok) (n : Nat) (hn : n = ts.length) (hm : n ≤ 16384) (v1 v2 : Value) (b1 b2 : Nat) (w : World)
    (h1 : w.ownsRow b1 37 5 v1 n (toksCells ts)) (h2 : w.ownsRow b2 37 5 v2 n (toksCells ts)) :
    Calls Tryz.prog 25 #[v1, v2] w fun e w' => e = .returned (.bool true) ∧ ∃ m, w' = w.drewN m := by
  by_cases h0 : n = 0
  · obtain ⟨A1, c1, rfl⟩ := owns_form h1
    obtain ⟨A2, c2, rfl⟩ := owns_form h2
    subst h0
    clear h1 h2 hn
    go_enter Tryz.func25, Tryz.ntmps25
    go_wp2
    go_loopw [5] (fun t wr => t = .int .i64 0 ∧ Hid (∃ m, wr = w.drewN m)) (fun _ _ => 0)
    case atStart => exact ⟨rfl, 0, rfl⟩
    case round =>
      obtain ⟨rfl, hW⟩ := hrel
      obtain ⟨m, rfl⟩ := hW
      go_wp2
      go_ret
      exact ⟨rfl, m, rfl⟩
  · obtain ⟨g1, c1, rfl, _, _, hc1, hcell1⟩ := owns_cell h1 (by omega)
    obtain ⟨g2, c2, rfl, _, _, hc2, hcell2⟩ := owns_cell h2 (by omega)
    have HC1 := Lib.hid (fun k t hk j u hu => hcell1 (k * 5 + j) u (toks_at ts k t hk j u hu))
    have HC2 := Lib.hid (fun k t hk j u hu => hcell2 (k * 5 + j) u (toks_at ts k t hk j u hu))
    have HN := Lib.hid hn
    clear h1 h2 hcell1 hcell2 hn
    go_enter Tryz.func25, Tryz.ntmps25
    go_wp2
    go_loopw [5] (fun t wr => ∃ k : Nat, k ≤ n ∧ t = .int .i64 k ∧ Hid (∃ m, wr = w.drewN m)) (fun t _ => n - (intOf t).toNat)
    case atStart => exact ⟨0, by omega, rfl, 0, rfl⟩
    case round =>
      obtain ⟨k, hk, rfl, hW⟩ := hrel
      obtain ⟨m, rfl⟩ := hW
      by_cases hlt : k < n
      · obtain ⟨t, ht⟩ : ∃ t, ts[k]? = some t := by
          have : k < ts.length := by rw [← HN.out]; exact hlt
          exact ⟨ts[k], List.getElem?_eq_getElem this⟩
        obtain ⟨⟨kd, nu, st, er⟩, a, b⟩ := t
        have x0 := HC1.out k _ ht 0 _ rfl
        have x1 := HC1.out k _ ht 1 _ rfl
        have x2 := HC1.out k _ ht 2 _ rfl
        have x3 := HC1.out k _ ht 3 _ rfl
        have x4 := HC1.out k _ ht 4 _ rfl
        have y0 := HC2.out k _ ht 0 _ rfl
        have y1 := HC2.out k _ ht 1 _ rfl
        have y2 := HC2.out k _ ht 2 _ rfl
        have y3 := HC2.out k _ ht 3 _ rfl
        have y4 := HC2.out k _ ht 4 _ rfl
        simp only [Nat.add_zero] at x0 y0
        clear ht
        go_wp2
        go_quiet (fail)
        go_wp2
        go_roundw
        case rel => exact ⟨k + 1, by omega, by go_num, _, rfl⟩
        case measure => simp [intOf]; omega
      · go_wp2
        go_ret
        exact ⟨rfl, m, rfl⟩

theorem owns_alloc_n {w : World} {b : Nat} {e : TypeId} {z : Nat} {v : Value} {n : Nat} {xs : List Value} (h : w.ownsRow b e z v n xs) (o : Obj) : (w.alloc o).ownsRow b e z v n xs := h.alloc o

theorem scF_length (f : Nat) : ∀ (l : Bs) (p : Int × Int) (ts : List Tok), ts.length ≤ 16384 → (scF f l p ts).1.length ≤ 16384 := by
  induction f with
  | zero => intro l p ts h; simp [scF]
  | succ f ih =>
    intro l p ts h
    rw [scF_step]
    by_cases h1 : (sk l).2 = false
    · rw [if_pos h1]; simp
    rw [if_neg h1]
    by_cases h2 : l.drop (sk l).1 = []
    · rw [if_pos h2]; exact h
    rw [if_neg h2]
    by_cases h3 : itErr (itemR (l.drop (sk l).1)) ts.length ≠ 0
    · rw [if_pos h3]; simp
    rw [if_neg h3]
    apply ih
    rw [List.length_append, List.length_singleton]
    have h4 : itErr (itemR (l.drop (sk l).1)) ts.length = 0 := Classical.byContradiction h3
    unfold itErr at h4
    by_cases h5 : (itemR (l.drop (sk l).1)).err = 0 ∧ ts.length = 16384
    · rw [if_pos h5] at h4; exact absurd h4 (by decide)
    · rw [if_neg h5] at h4
      have : ts.length ≠ 16384 := fun e => h5 ⟨h4, e⟩
      omega
theorem scan_length (l : Bs) : (scan l).1.length ≤ 16384 := by
  unfold scan
  by_cases h : 65536 < l.length
  · rw [if_pos h]; simp
  · rw [if_neg h]; exact scF_length _ _ _ _ (by simp)

end Go.Proofs.YtkjjagmpnnnimaaGreatDoor

namespace Go.Proofs.YtkjjagmpnnnimaaGreatDoor
open Go.RowKit M

/-- a slice that reads as tokens -/
def InToks (w : World) (A : Option Addr) (ts : List Tok) : Prop :=
  ts = [] ∨ ∃ (b off : Nat), A = some ⟨b, off, none⟩ ∧ b < w.heap.size ∧ ∀ (k : Nat) (t : Tok), ts[k]? = some t → ∀ (j : Nat) (u : Value), (tokCells t)[j]? = some u → w.cell? ⟨b, off + k * 5 + j, none⟩ = some u
theorem InToks.keep {Pr : Nat → Prop} {w w' : World} {A : Option Addr} {ts : List Tok} (h : InToks w A ts) (hk : Keep Pr w w') (hp : ∀ b, b < w.heap.size → Pr b) : InToks w' A ts := by
  rcases h with h | ⟨b, off, rfl, hb, hc⟩
  · exact .inl h
  · exact .inr ⟨b, off, rfl, Nat.lt_of_lt_of_le hb hk.size, fun k t ht j u hu => (hk.cell (hp b hb) _).trans (hc k t ht j u hu)⟩
theorem InToks.below {w w' : World} {A : Option Addr} {ts : List Tok} (h : InToks w A ts) (hb : Below w.heap.size w w') : InToks w' A ts :=
  h.keep (Pr := (· < w.heap.size)) ⟨hb.os, hb.tape, hb.output, hb.size, hb.block⟩ (fun _ q => q)
theorem InToks.alloc {w : World} {A : Option Addr} {ts : List Tok} (h : InToks w A ts) (o : Obj) : InToks (w.alloc o) A ts := h.below ((Below.refl _ _).alloc (Nat.le_refl _) o)
theorem InToks.drewN {w : World} {A : Option Addr} {ts : List Tok} (h : InToks w A ts) (n : Nat) : InToks (w.drewN n) A ts := h
theorem InToks.own {w : World} {b : Nat} {ts : List Tok} {A : Option Addr} {n c : Nat} (h : w.ownsRow b 37 5 (.slice A n c) n (toksCells ts)) (hn : n = ts.length) : InToks w A ts := by
  by_cases h0 : n = 0
  · exact .inl (List.eq_nil_of_length_eq_zero (by omega))
  · obtain ⟨g, c', e, _, hlt, _, hcell⟩ := owns_cell h (by omega)
    injection e with e1 e2 e3
    subst e1
    refine .inr ⟨g, 0, rfl, hlt, fun k t ht j u hu => ?_⟩
    rw [Nat.zero_add]
    exact hcell _ u (toks_at ts k t ht j u hu)

end Go.Proofs.YtkjjagmpnnnimaaGreatDoor
