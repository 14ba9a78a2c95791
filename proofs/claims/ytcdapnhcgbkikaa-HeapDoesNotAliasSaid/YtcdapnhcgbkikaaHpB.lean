/- The program's small functions: isNew, validRefs, has, isHole, isLink, Clone, copied. Conditions: at most 2^43 references. -/
import Derived.Test.YtcdapnhcgbkikaaHpA
import Derived.Deep.RegionHeld3
import Derived.Deep.DeepCutAuto
namespace Go.Proofs.Ytcdapnhcgbkikaa
open Go.RowKit

def newB (k : Int) : Bool := decide (k = 1) || (decide (4 ≤ k) && decide (k ≤ 19))
def hasB (n : Nat) (r : Int) : Bool := decide (0 ≤ r) && decide (r < (n : Int))
def refsB (l : List Int) (n : Int) : Bool := decide (l.length ≤ 4096) && l.all fun r => decide (0 ≤ r) && decide (r < n)
theorem int_infos : (Try.prog.info? 3).map (fun i => (i.zero, i.size, i.bytes)) = some (some (.int .i64 0), 1, 8) := by kernel_rfl
theorem intV_one (l : List Int) : ∀ u ∈ intV l, u.oneCell' = true := by
  intro u hu
  obtain ⟨z, _, rfl⟩ := List.mem_map.1 hu
  rfl
theorem int_at {w : World} {A : Option Addr} {l : List Int} (h : InC w A (intV l)) {i : Nat} {z : Int} (hi : l[i]? = some z) : ∃ b off, A = some ⟨b, off, none⟩ ∧ b < w.heap.size ∧ w.cell? ⟨b, off + i, none⟩ = some (.int .i64 z) := by
  rcases h with h | ⟨b, off, e, hb, hc⟩
  · have : l = [] := by cases l with | nil => rfl | cons a r => cases h
    rw [this] at hi; simp at hi
  · exact ⟨b, off, e, hb, hc i _ (by unfold intV; rw [List.getElem?_map, hi]; rfl)⟩
set_option maxRecDepth 100000 in
set_option maxHeartbeats 3200000 in
theorem isNew_any (k : Int) (w : World) : Calls Try.prog 37 #[.int .i64 k] w fun e w' => e = .returned (.bool (newB k)) ∧ w' = w := by
  by_cases h1 : k = 1
  · subst h1
    go_enter Try.func37, Try.ntmps37
    go_wp2
    go_ret
    exact ⟨rfl, rfl⟩
  · have g1 : (k == 1) = false := beq_eq_false_iff_ne.2 h1
    by_cases h2 : 4 ≤ k
    · have g2 : decide (4 ≤ k) = true := decide_eq_true h2
      go_enter Try.func37, Try.ntmps37
      go_wp2
      go_ret
      exact ⟨ret_bool (by unfold newB; simp [h1]; omega), rfl⟩
    · have g2 : decide (4 ≤ k) = false := decide_eq_false h2
      go_enter Try.func37, Try.ntmps37
      go_wp2
      go_ret
      exact ⟨ret_bool (by unfold newB; simp [h1]; omega), rfl⟩
section
variable {w : World} {S : Nat → Prop} {g : Nat} {most : Int} {cs : List PC} {A : Option Addr} {n c : Nat}
set_option maxRecDepth 100000 in
set_option maxHeartbeats 3200000 in
theorem has_any (h : HP w S g most cs A n c) (r : Int) : Calls Try.prog 40 #[.pointer (some ⟨g, 0, none⟩), .int .i64 r] w fun e w' => e = .returned (.bool (hasB n r)) ∧ w' = w := by
  have b1 := h.box1
  clear h
  by_cases h1 : 0 ≤ r
  · have g1 : decide (0 ≤ r) = true := decide_eq_true h1
    go_enter Try.func40, Try.ntmps40
    go_wp2
    go_ret
    exact ⟨ret_bool (by unfold hasB; rw [g1, Bool.true_and]), rfl⟩
  · have g1 : decide (0 ≤ r) = false := decide_eq_false h1
    go_enter Try.func40, Try.ntmps40
    go_wp2
    go_ret
    exact ⟨ret_bool (by unfold hasB; rw [g1, Bool.false_and]), rfl⟩
set_option maxRecDepth 100000 in
set_option maxHeartbeats 3200000 in
theorem isHole_any (h : HP w S g most cs A n c) {i : Nat} {x : PC} (hi : cs[i]? = some x): Calls Try.prog 42 #[.pointer (some ⟨g, 0, none⟩), .int .i64 i] w fun e w' => e = .returned (.bool (x.kind == 2)) ∧ w' = w := by
  have b1 := h.box1
  obtain ⟨b, hA, hb, hnc, hin, ⟨c0, c1, c2, c3⟩, hf⟩ := h.at_ hi
  subst hA
  clear h hi hf c1 c2 c3
  have g0 : (0 : Int) ≤ (i : Int) := by omega
  have g1 : (i : Int) < (n : Int) := by omega
  go_enter Try.func42, Try.ntmps42
  go_wp2
  go_ret
  exact ⟨rfl, rfl⟩
set_option maxRecDepth 100000 in
set_option maxHeartbeats 3200000 in
theorem isLink_any (h : HP w S g most cs A n c) {i : Nat} {x : PC} (hi : cs[i]? = some x): Calls Try.prog 51 #[.pointer (some ⟨g, 0, none⟩), .int .i64 i] w fun e w' => e = .returned (.bool (x.kind == 3)) ∧ w' = w := by
  have b1 := h.box1
  obtain ⟨b, hA, hb, hnc, hin, ⟨c0, c1, c2, c3⟩, hf⟩ := h.at_ hi
  subst hA
  clear h hi hf c1 c2 c3
  have g0 : (0 : Int) ≤ (i : Int) := by omega
  have g1 : (i : Int) < (n : Int) := by omega
  go_enter Try.func51, Try.ntmps51
  go_wp2
  go_ret
  exact ⟨rfl, rfl⟩
end
/-- a row of numbers of the call's own -/
def IntRow (w : World) (l : List Int) (e : Ending) (w' : World) : Prop := ∃ v, e = .returned v ∧ w'.ownsRow w.heap.size 3 1 v l.length (intV l) ∧ Below w.heap.size w w'
set_option maxRecDepth 100000 in
set_option maxHeartbeats 3200000 in
theorem clone_any (l : List Int) (A : Option Addr) (n c : Nat) (w : World) (hn : n = l.length) (hl : n ≤ 8796093022208) (hA : InC w A (intV l)) :
    Calls Try.prog 43 #[.slice A n c] w (IntRow w l) := by
  have HN := Lib.hid hn
  obtain ⟨i0, hi0, hiz0, hiz1, hiz2⟩ := info_parts int_infos
  have q22 : ∀ (w : World) (a : Option Addr) (n c n' c' : Nat), (binOp .eql 41 (.slice a n c) (.slice none n' c')).run Try.prog w = .ok (.bool a.isNone) w := fun w a n c n' c' => Lib.run_eql_slice_nil w _ _ a n c n' c' Try.underlying41
  cases A with
  | none =>
    have h0 : l = [] := by
      rcases hA with h | ⟨b, off, e, _⟩
      · cases l with | nil => rfl | cons a r => cases h
      · cases e
    subst h0
    clear hA hn
    go_enter Try.func43, Try.ntmps43
    go_wp2_with fail
    go_ret
    exact ⟨_, rfl, World.ownsRow_nil _ _ _ _, Below.refl _ _⟩
  | some ad =>
  have HA := hide hA
  clear hn hA
  go_enter Try.func43, Try.ntmps43
  go_wp2_with (at_builtin; refine wpList_app _ rfl _ _ 41 rfl w.heap.size 3 i0 _ 1 8 Try.underlying41 hi0 hiz0 hiz1 hiz2 rfl (by decide) _ 0 [] rfl (World.ownsRow_lit w #[] 0 (Nat.le_refl _) (by unfold maxLen; omega) rfl) _ n c (intV l) rfl (by rw [intV_len, HN.out, Nat.mul_one]) ((unhide HA).alloc _) (intV_one l) (by unfold maxLen; omega) (by omega) (by simp) ?_; intro v1 w1 hown1 hgrow1 _)
  rw [Nat.zero_add, List.nil_append] at hown1
  have HB1 := hide (below_app ((Below.refl w.heap.size w).alloc (Nat.le_refl _) _) (World.ownsRow_lit (base := w.heap.size) (e := 3) (size := 1) w #[] 0 (Nat.le_refl _) (by unfold maxLen; omega) rfl) hgrow1)
  have HO1 := hide hown1
  clear hgrow1 hown1
  go_wp2_with fail
  go_ret
  exact ⟨_, rfl, by rw [← HN.out]; exact unhide HO1, unhide HB1⟩
/-- a cell of the call's own -/
def CelRow (w : World) (k m : Int) (l : List Int) (e : Ending) (w' : World) : Prop := ∃ v, e = .returned (.agg #[.int .i64 k, .int .i64 m, v]) ∧ w'.ownsRow w.heap.size 3 1 v l.length (intV l) ∧ Below w.heap.size w w'
set_option maxRecDepth 100000 in
set_option maxHeartbeats 3200000 in
theorem copied_any (k m : Int) (l : List Int) (A : Option Addr) (n c : Nat) (w : World) (hn : n = l.length) (hl : n ≤ 8796093022208) (hA : InC w A (intV l)) :
    Calls Try.prog 39 #[.agg #[.int .i64 k, .int .i64 m, .slice A n c]] w (CelRow w k m l) := by
  have HC := hide (fun (w : World) hA => clone_any l A n c w hn hl hA)
  have HA := hide hA
  clear hA hn
  go_enter Try.func39, Try.ntmps39
  go_wp2_with fail
  refine ((unhide HC) _ (((unhide HA).alloc _).alloc _)).mono ?_
  rintro e w1 ⟨v, rfl, ho, hb⟩
  obtain ⟨g1, hg1⟩ : ∃ b, Hid (b = w.heap.size) := ⟨_, Lib.hid rfl⟩
  obtain ⟨g2, hg2⟩ : ∃ b, Hid (b = g1 + 1) := ⟨_, Lib.hid rfl⟩
  have k1 := ((Blk.new w 43 #[.int .i64 k, .int .i64 m, .slice A n c]).alloc (.cells #[.int .i64 0, .int .i64 0, .slice none 0 0] 43)).below hb (by simp only [World.size_alloc]; omega)
  have k2 := (Blk.new (w.alloc (.cells #[.int .i64 k, .int .i64 m, .slice A n c] 43)) 43 #[.int .i64 0, .int .i64 0, .slice none 0 0]).below hb (by simp only [World.size_alloc]; omega)
  rw [World.size_alloc] at k2
  rw [← hg1.out] at k1 k2
  rw [← hg2.out] at k2
  have HB := hide ((((Below.refl w.heap.size w).alloc (Nat.le_refl _) _).alloc (by simp only [World.size_alloc]; omega) _).trans (hb.mono (by simp only [World.size_alloc]; omega)))
  have HO := hide (owns_base (b' := w.heap.size) ho (by simp only [World.size_alloc]; omega))
  have HO2 := hide (ho.lt)
  simp only [← hg1.out]
  simp only [← hg2.out]
  have K1 := hide k1
  have K2 := hide k2
  have hne : g1 ≠ g2 := by rw [hg2.out]; omega
  have hne2 : g2 ≠ g1 := fun e => hne e.symm
  have hv1 : v.ownBlock ≠ some g1 := fun e => by have := (ho.lt g1 e).1; simp only [World.size_alloc] at this; have := hg1.out; omega
  have hv2 : v.ownBlock ≠ some g2 := fun e => by have := (ho.lt g2 e).1; simp only [World.size_alloc] at this; have := hg1.out; have := hg2.out; omega
  have HV1 := Lib.hid hv1
  have HV2 := Lib.hid hv2
  have a0 := k1.cell 0
  have a1 := k1.cell 1
  have a2 := k1.cell 2
  have af := k1.frozen 2
  change w1.cell? ⟨g1, 0, none⟩ = some (.int .i64 k) at a0
  change w1.cell? ⟨g1, 1, none⟩ = some (.int .i64 m) at a1
  change w1.cell? ⟨g1, 2, none⟩ = some (.slice A n c) at a2
  have d0 := k2.cell 0
  have d1 := k2.cell 1
  have d2 := k2.cell 2
  have df := k2.frozen 0
  have df1 := k2.frozen 1
  have df2 := k2.frozen 2
  change w1.cell? ⟨g2, 0, none⟩ = some (.int .i64 0) at d0
  change w1.cell? ⟨g2, 1, none⟩ = some (.int .i64 0) at d1
  change w1.cell? ⟨g2, 2, none⟩ = some (.slice none 0 0) at d2
  have hw1 : w.heap.size ≤ g1 := Nat.le_of_eq hg1.out.symm
  have hw2 : w.heap.size ≤ g2 := by rw [hg2.out]; omega
  clear ho hb k1 k2 HC HA hv1 hv2
  obtain ⟨A', c', hv⟩ := owns_form (unhide HO)
  subst hv
  go_wp2_with fail
  have K3 := ((((unhide K2).far (p := ⟨g1, 2, none⟩) hne2 (.slice A' l.length c')).set_ 0 (.int .i64 k)).set_ 1 (.int .i64 m)).set_ 2 (.slice A' l.length c')
  have e0 := K3.cell 0
  have e1 := K3.cell 1
  have e2 := K3.cell 2
  refine bodyPost_ret (v := .agg #[.int .i64 k, .int .i64 m, .slice A' l.length c']) ?_ rfl ⟨_, rfl, ?_, ?_⟩
  · simp [results, Try.f39, go_sem, e0, e1, e2]
  · exact owns_set (owns_set (owns_set (owns_set (unhide HO) HV1.out _) HV2.out _) HV2.out _) HV2.out _
  · exact ((((unhide HB).setCell (p := ⟨g1, 2, none⟩) hw1 _).setCell (p := ⟨g2, 0, none⟩) hw2 _).setCell (p := ⟨g2, 1, none⟩) hw2 _).setCell (p := ⟨g2, 2, none⟩) hw2 _
end Go.Proofs.Ytcdapnhcgbkikaa
