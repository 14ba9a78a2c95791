/- finset.collected over an iterator that has blocks of its own. Conditions: as at collected_in. -/
import Derived.Test.YtkdlmgahkckjbaaGreatFpB
import Derived.Test.YtkdlmgahkckjbaaGreatFnE
import Derived.Test.YtkdlmgahkckjbaaGreatRng
namespace Go.Proofs.YtkdlmgahkckjbaaGreat
open Go.RowKit Go.Shelf VM

attribute [local go_sem] Oper.semAt_some

structure ColQ (w : World) (m p0 p1 p2 p3 pb : Nat) : Prop where
  b : w.heap.size ≤ p0
  d1 : p1 = p0 + 1
  d2 : p2 = p0 + 2
  d3 : p3 = p0 + 3
  d4 : pb = p0 + 6 + m
theorem box_row {W W' : World} {B : Nat} {t : TypeId} {v : Value} {row : Option Nat} (h : Boxed W B t v) (hg : W.grownBy W' row) (hr : ∀ r, row = some r → (∃ o : Obj, W.heap[r]? = some o ∧ o.isCells = false) ∨ r ≠ B) : Boxed W' B t v :=
  h.kept hg fun e' => by
    rcases hr B e'.symm with ⟨o, ho, hc⟩ | q
    · rw [show W.heap[B]? = _ from h] at ho; cases ho; cases hc
    · exact q rfl
theorem own_row {W W' : World} {base z k : Nat} {e : TypeId} {v : Value} {xs : List Value} {row : Option Nat} (h : W.ownsRow base e z v k xs) (hg : W.grownBy W' row) (hr : ∀ r, row = some r → (∃ o : Obj, W.heap[r]? = some o ∧ o.isCells = false) ∨ r < base) : W'.ownsRow base e z v k xs := by
  refine h.kept hg ?_
  rcases h.2 with ⟨rfl, _⟩ | ⟨g, cap, cur, rfl, hbg, hgb, _⟩
  · exact .inl rfl
  · refine .inr fun e' => ?_
    rcases hr g (by simpa [Value.ownBlock] using e'.symm) with ⟨o, ho, hc⟩ | q
    · rw [hgb] at ho; cases ho; cases hc
    · have := (h.lt g (by simp [Value.ownBlock])).1; omega
theorem ColQ.from {w : World} {m p0 p1 p2 p3 pb B : Nat} (hp : ColQ w m p0 p1 p2 p3 pb) (hB : pb = B + 2 + m) :
    OwnR B (B + 2) m (ColI w p0 p1 p2 p3 pb) ∧ OwnR B (B + 2) m (fun (_ : List BV) W => ColX w p0 p1 W) := by
  obtain ⟨hb, h1, h2, h3, h4⟩ := hp
  have key : ∀ {X : World} {row : Option Nat}, (∀ r, row = some r → (B ≤ r ∧ ∃ o : Obj, X.heap[r]? = some o ∧ o.isCells = false) ∨ (B + 2 ≤ r ∧ r < B + 2 + m)) → ∀ p, p < B → ∀ r, row = some r → (∃ o : Obj, X.heap[r]? = some o ∧ o.isCells = false) ∨ r ≠ p := fun hr p hp r e => by
    rcases hr r e with q | q
    · exact .inl q.2
    · exact .inr (by omega)
  have low : ∀ {X : World} {row : Option Nat}, (∀ r, row = some r → (B ≤ r ∧ ∃ o : Obj, X.heap[r]? = some o ∧ o.isCells = false) ∨ (B + 2 ≤ r ∧ r < B + 2 + m)) → ∀ k, row = some k → w.heap.size ≤ k := fun hr k e => by rcases hr k e with q | q <;> omega
  refine ⟨fun s X Y row h hg hr => ?_, fun s X Y row h hg hr => ⟨box_row h.r0 hg (key hr _ (by omega)), box_row h.r1 hg (key hr _ (by omega)), h.b.grown hg h.b.size (low hr)⟩⟩
  obtain ⟨v, q1, q2⟩ := h.l
  refine ⟨box_row h.r0 hg (key hr _ (by omega)), box_row h.r1 hg (key hr _ (by omega)), ⟨v, box_row q1 hg (key hr _ (by omega)), own_row q2 hg fun r e => ?_⟩, box_row h.n hg (key hr _ (by omega)), h.b.grown hg h.b.size (low hr)⟩
  rcases hr r e with q | q
  · exact .inl q.2
  · exact .inr (by omega)
/-- behind an append to the row -/
theorem colq_app {w W w1 : World} {m p0 p1 p2 p3 pb k : Nat} {r e u v : Value} {xs : List Value} {tmp : Obj} (hp : ColQ w m p0 p1 p2 p3 pb) (hz : pb ≤ W.heap.size) (h0 : Boxed W p0 27 r) (h1 : Boxed W p1 29 e) (h2 : Boxed W p2 22 v) (h3 : Boxed W p3 3 u)
    (hrow : W.ownsRow pb 27 1 v k xs) (hgrow : (W.alloc tmp).grownBy w1 v.ownBlock) :
    Boxed w1 p0 27 r ∧ Boxed w1 p1 29 e ∧ Boxed w1 p2 22 v ∧ Boxed w1 p3 3 u ∧ KeepsOthers W w1 ∧ Below w.heap.size W w1 ∧ Below pb W w1 := by
  obtain ⟨hb, rfl, rfl, rfl, hpb⟩ := hp
  have hne : ∀ j, j < p0 + 4 → some j ≠ v.ownBlock := fun j hj e => by have := (hrow.lt j e.symm).1; omega
  have hB : Below pb W w1 := ((Below.refl _ W).alloc (by omega) tmp).grown hgrow (by simp; omega) fun j ej => (hrow.lt j ej).1
  refine ⟨(h0.alloc _).kept hgrow (hne _ (by omega)), (h1.alloc _).kept hgrow (hne _ (by omega)), (h2.alloc _).kept hgrow (hne _ (by omega)), (h3.alloc _).kept hgrow (hne _ (by omega)), ?_, hB.mono (by omega), hB⟩
  refine (KeepsOthers.alloc W tmp).trans (KeepsOthers.of_grownBy hgrow fun j o ej hj => ?_)
  rcases (hrow.alloc tmp).2 with ⟨rfl, _⟩ | ⟨g, cap, cur, rfl, _, hgb, _⟩
  · simp [Value.ownBlock] at ej
  · obtain rfl : g = j := by simpa [Value.ownBlock] using ej
    rw [hgb] at hj; cases hj; rfl
set_option linter.unusedSimpArgs false in
set_option maxRecDepth 100000 in
set_option maxHeartbeats 4000000 in
theorem collectedR_in (m n : Nat) (hn : 3 ≤ n) (gf : Nat) (lb : Array Value) (eg : ∀ args w, (callFunc gf args).run Tryz.prog w = .ok (.enter gf args) w) (zs : List BV) (hnd : (∀ x ∈ strs zs, x ≠ ⟨#[]⟩) → (strs zs).Nodup) (hlen : zs.length ≤ 16777216) (w : World)
    (hseq : SeqR Fence.wide (n - 1) Tryz.prog gf lb (fun x : BV => #[Value.string x.1]) w.heap.size m (fun ys => ys = zs) (fun pre => pre <+: zs) zs.length w) :
    CallsIn Fence.wide n Tryz.prog 21 #[.func (.func gf) #[] lb] w fun e W' => e = .returned (.tuple #[.string (bnd (strs zs)).1, .int .i64 (bnd (strs zs)).2]) ∧ Below w.heap.size w W' := by
  have h1 : 1 ≤ n := by omega
  have h2 : 1 ≤ n - 1 - 1 := by omega
  have hro : Fence.wide.round = none := rfl
  obtain ⟨i0, hi0, hiz0, hiz1, hiz2⟩ := info_parts val_info
  refine callsIn_of_wp_marks Tryz.func21 rfl trivial ?_ hro
  simp only [Tryz.ntmps21, List.size_toArray, List.length_cons, List.length_nil, Nat.reduceAdd, Nat.reduceSub, Array.replicate_succ, Array.replicate_zero, List.push_toArray, List.append_toArray, List.nil_append, List.cons_append]
  gi_wp2
  have hI0 := ColI.start w (pb := w.heap.size + 6 + m) rfl rfl rfl rfl
  have hsz0 : ((((w.alloc (.cells #[.string ⟨#[]⟩] 27)).alloc (.cells #[.int .i64 0] 29)).alloc (.cells #[.slice none 0 0] 22)).alloc (.cells #[.int .i64 0] 3)).heap.size = w.heap.size + 4 := by simp
  generalize (((w.alloc (.cells #[.string ⟨#[]⟩] 27)).alloc (.cells #[.int .i64 0] 29)).alloc (.cells #[.slice none 0 0] 22)).alloc (.cells #[.int .i64 0] 3) = w0 at *
  have hp : ColQ w m w.heap.size (w.heap.size + 1) (w.heap.size + 1 + 1) (w.heap.size + 1 + 1 + 1) (w.heap.size + 6 + m) := ⟨Nat.le_refl _, rfl, by omega, by omega, rfl⟩
  obtain ⟨pb, hpb⟩ : ∃ p, p = w.heap.size + 6 + m := ⟨_, rfl⟩
  obtain ⟨p3, hp3⟩ : ∃ p, p = w.heap.size + 1 + 1 + 1 := ⟨_, rfl⟩
  obtain ⟨p2, hp2⟩ : ∃ p, p = w.heap.size + 1 + 1 := ⟨_, rfl⟩
  obtain ⟨p1, hp1⟩ : ∃ p, p = w.heap.size + 1 := ⟨_, rfl⟩
  obtain ⟨p0, hp0⟩ : ∃ p, p = w.heap.size := ⟨_, rfl⟩
  have hle : w.heap.size ≤ w0.heap.size := by omega
  rw [← hpb, ← hp3, ← hp2, ← hp1] at hI0 hp
  rw [← hp3, ← hp2, ← hp1, ← hp0]
  have hI0 : ColI w p0 p1 p2 p3 pb [] w0 := by rw [hp0]; exact hI0
  have hp : ColQ w m p0 p1 p2 p3 pb := by rw [hp0]; exact hp
  have hpw : pb = w0.heap.size + 2 + m := by omega
  have l3w : p3 < w0.heap.size := by omega
  have l2w : p2 < w0.heap.size := by omega
  have n02 : p0 ≠ p2 := by omega
  have n12 : p1 ≠ p2 := by omega
  have n32 : p3 ≠ p2 := by omega
  have n23 : p2 ≠ p3 := by omega
  have n03 : p0 ≠ p3 := by omega
  have n13 : p1 ≠ p3 := by omega
  have n10 : p1 ≠ p0 := by omega
  have g0 : w.heap.size ≤ p0 := by omega
  have g1 : w.heap.size ≤ p1 := by omega
  have g2 : w.heap.size ≤ p2 := by omega
  have g3 : w.heap.size ≤ p3 := by omega
  have l2 : p2 < pb := by omega
  have l3 : p3 < pb := by omega
  have n01 : p0 ≠ p1 := by omega
  have HO := ColQ.from hp hpw
  clear hpb hp3 hp2 hp1 hp0
  refine wpIn_rangeR hro h1 (gf := gf) (lb := lb) rfl trivial eg hseq hle hI0.b (fun _ => rfl)
    (fun pre W => ColI w p0 p1 p2 p3 pb pre W ∧ Within pre)
    (fun c pre W => c = .ret ∧ Over pre ∧ ColX w p0 p1 W)
    (OwnR.and HO.1 (ownR_pure _ _ _ _))
    (fun _ s X Y row hs hg hr => ⟨hs.1, hs.2.1, HO.2 s X Y row hs.2.2 hg hr⟩)
    ⟨hI0, by unfold Within strs totB; simp⟩
    (fun x => { tmps := #[.func (.func gf) #[] lb, undef, .pointer (some ⟨p0, 0, none⟩), .pointer (some ⟨p1, 0, none⟩), .pointer (some ⟨p2, 0, none⟩), .pointer (some ⟨p3, 0, none⟩), .string x.1, undef, .func (.func gf) #[] lb, .string x.1, undef, undef, undef, undef, undef, undef, undef, undef, undef, undef, undef, undef, undef, undef, undef, undef, undef, undef, undef, undef, undef, undef, undef, undef], defers := [] }) ?assign ?body ?done ?stop
  case assign =>
    intro l x W K hK
    gi_wp2
    exact hK
  case body =>
    rintro l pre ⟨s, hs⟩ W ⟨hI, hW⟩ hm hlt
    obtain ⟨v, hv, hrow⟩ := hI.l
    obtain ⟨A2, c2, rfl⟩ := owns_form hrow
    have hc2 := hv.cell
    have hts := hW.2.2
    have hpl := hW.2.1
    dsimp only
    by_cases hE : s = ⟨#[]⟩
    · subst hE
      gi_wp2_with (gi_at_builtin; refine wpListIn_append_own _ rfl _ _ 22 rfl pb 27 i0 (.string ⟨#[]⟩) 1 16 Tryz.underlying22 hi0 hiz0 hiz1 hiz2 rfl (by decide) _ _ _ rfl (hrow.alloc _) ⟨W.heap.size, 0, none⟩ 1 1 [.string ⟨#[]⟩] rfl rfl (cell_one_new _ _ _) (by simp [Value.oneCell']) (by unfold maxLen; omega) (by omega) (by simp; omega) ?_; intro v' w1 hown' hgrow _; obtain ⟨g', cap', rfl⟩ := ownsRow_succ hown'; obtain ⟨k0, k1, k2, k3, k4, k5, k6⟩ := colq_app hp (by omega) hI.r0 hI.r1 hv hI.n hrow hgrow; have d2 := k2.cell; have f2 := k2.frozen; have m0 := k0.other n02 (.slice (some ⟨g', 0, none⟩) (pre.length + 1) cap'); have m1 := k1.other n12 (.slice (some ⟨g', 0, none⟩) (pre.length + 1) cap'); have m2 := k2.set (.slice (some ⟨g', 0, none⟩) (pre.length + 1) cap'); have m3 := k3.other n32 (.slice (some ⟨g', 0, none⟩) (pre.length + 1) cap'); have d3 := m3.cell; have f3 := m3.frozen; have e2 := (m2.other n23 (.int .i64 (totB (strs pre) : Int))).cell; have q0 := m0.other n03 (.int .i64 (totB (strs pre) : Int)); have q0c := q0.cell; have q0f := q0.frozen; have q1 := m1.other n13 (.int .i64 (totB (strs pre) : Int)); have z1 := q1.other n10 (.string ⟨#[]⟩); have z1c := z1.cell; have z1f := z1.frozen)
      exact ⟨((((k4.trans (KeepsOthers.setCell _ _ _)).trans (KeepsOthers.setCell _ _ _)).trans (KeepsOthers.setCell _ _ _)).trans (KeepsOthers.setCell _ _ _)).from _, rfl, .inl (by rw [strs_app, strs_one]; simp), ⟨(q0.set _).other n01 _, z1.set _, hI.b.trans ((((k5.setCell (p := ⟨p2, 0, none⟩) g2 _).setCell (p := ⟨p3, 0, none⟩) g3 _).setCell (p := ⟨p0, 0, none⟩) g0 _).setCell (p := ⟨p1, 0, none⟩) g1 _)⟩⟩
    · have he := isEmpty_toList s
      rw [decide_eq_false hE] at he
      have he2 : s.toList.isEmpty = false := by rw [List.isEmpty_eq_false_iff]; intro q; rw [q] at he; cases he
      by_cases h4 : 4096 < pre.length + 1
      · have g4 : decide ((4096 : Int) < (pre.length : Int) + 1) = true := decide_eq_true (by omega)
        gi_wp2_with (gi_at_builtin; refine wpListIn_append_own _ rfl _ _ 22 rfl pb 27 i0 (.string ⟨#[]⟩) 1 16 Tryz.underlying22 hi0 hiz0 hiz1 hiz2 rfl (by decide) _ _ _ rfl (hrow.alloc _) ⟨W.heap.size, 0, none⟩ 1 1 [.string s] rfl rfl (cell_one_new _ _ _) (by simp [Value.oneCell']) (by unfold maxLen; omega) (by omega) (by simp; omega) ?_; intro v' w1 hown' hgrow _; obtain ⟨g', cap', rfl⟩ := ownsRow_succ hown'; obtain ⟨k0, k1, k2, k3, k4, k5, k6⟩ := colq_app hp (by omega) hI.r0 hI.r1 hv hI.n hrow hgrow; have d2 := k2.cell; have f2 := k2.frozen; have m0 := k0.other n02 (.slice (some ⟨g', 0, none⟩) (pre.length + 1) cap'); have m1 := k1.other n12 (.slice (some ⟨g', 0, none⟩) (pre.length + 1) cap'); have m2 := k2.set (.slice (some ⟨g', 0, none⟩) (pre.length + 1) cap'); have m3 := k3.other n32 (.slice (some ⟨g', 0, none⟩) (pre.length + 1) cap'); have d3 := m3.cell; have f3 := m3.frozen; have e2 := (m2.other n23 (.int .i64 ((totB (strs pre) : Int) + (s.size : Int)))).cell; have q0 := m0.other n03 (.int .i64 ((totB (strs pre) : Int) + (s.size : Int))); have q0c := q0.cell; have q0f := q0.frozen; have q1 := m1.other n13 (.int .i64 ((totB (strs pre) : Int) + (s.size : Int))); have z1 := q1.other n10 (.string ⟨#[]⟩); have z1c := z1.cell; have z1f := z1.frozen)
        exact ⟨((((k4.trans (KeepsOthers.setCell _ _ _)).trans (KeepsOthers.setCell _ _ _)).trans (KeepsOthers.setCell _ _ _)).trans (KeepsOthers.setCell _ _ _)).from _, rfl, .inr (.inl (by rw [List.length_append]; exact h4)), ⟨(q0.set _).other n01 _, z1.set _, hI.b.trans ((((k5.setCell (p := ⟨p2, 0, none⟩) g2 _).setCell (p := ⟨p3, 0, none⟩) g3 _).setCell (p := ⟨p0, 0, none⟩) g0 _).setCell (p := ⟨p1, 0, none⟩) g1 _)⟩⟩
      · have g4 : decide ((4096 : Int) < (pre.length : Int) + 1) = false := decide_eq_false (by omega)
        by_cases h5 : 131072 < totB (strs pre) + s.size
        · have g5 : decide ((131072 : Int) < (totB (strs pre) : Int) + (s.size : Int)) = true := decide_eq_true (by omega)
          gi_wp2_with (gi_at_builtin; refine wpListIn_append_own _ rfl _ _ 22 rfl pb 27 i0 (.string ⟨#[]⟩) 1 16 Tryz.underlying22 hi0 hiz0 hiz1 hiz2 rfl (by decide) _ _ _ rfl (hrow.alloc _) ⟨W.heap.size, 0, none⟩ 1 1 [.string s] rfl rfl (cell_one_new _ _ _) (by simp [Value.oneCell']) (by unfold maxLen; omega) (by omega) (by simp; omega) ?_; intro v' w1 hown' hgrow _; obtain ⟨g', cap', rfl⟩ := ownsRow_succ hown'; obtain ⟨k0, k1, k2, k3, k4, k5, k6⟩ := colq_app hp (by omega) hI.r0 hI.r1 hv hI.n hrow hgrow; have d2 := k2.cell; have f2 := k2.frozen; have m0 := k0.other n02 (.slice (some ⟨g', 0, none⟩) (pre.length + 1) cap'); have m1 := k1.other n12 (.slice (some ⟨g', 0, none⟩) (pre.length + 1) cap'); have m2 := k2.set (.slice (some ⟨g', 0, none⟩) (pre.length + 1) cap'); have m3 := k3.other n32 (.slice (some ⟨g', 0, none⟩) (pre.length + 1) cap'); have d3 := m3.cell; have f3 := m3.frozen; have e2 := (m2.other n23 (.int .i64 ((totB (strs pre) : Int) + (s.size : Int)))).cell; have q0 := m0.other n03 (.int .i64 ((totB (strs pre) : Int) + (s.size : Int))); have q0c := q0.cell; have q0f := q0.frozen; have q1 := m1.other n13 (.int .i64 ((totB (strs pre) : Int) + (s.size : Int))); have z1 := q1.other n10 (.string ⟨#[]⟩); have z1c := z1.cell; have z1f := z1.frozen)
          exact ⟨((((k4.trans (KeepsOthers.setCell _ _ _)).trans (KeepsOthers.setCell _ _ _)).trans (KeepsOthers.setCell _ _ _)).trans (KeepsOthers.setCell _ _ _)).from _, rfl, .inr (.inr (by rw [strs_app, totB_app, strs_one, tot_one]; exact h5)), ⟨(q0.set _).other n01 _, z1.set _, hI.b.trans ((((k5.setCell (p := ⟨p2, 0, none⟩) g2 _).setCell (p := ⟨p3, 0, none⟩) g3 _).setCell (p := ⟨p0, 0, none⟩) g0 _).setCell (p := ⟨p1, 0, none⟩) g1 _)⟩⟩
        · have g5 : decide ((131072 : Int) < (totB (strs pre) : Int) + (s.size : Int)) = false := decide_eq_false (by omega)
          gi_wp2_with (gi_at_builtin; refine wpListIn_append_own _ rfl _ _ 22 rfl pb 27 i0 (.string ⟨#[]⟩) 1 16 Tryz.underlying22 hi0 hiz0 hiz1 hiz2 rfl (by decide) _ _ _ rfl (hrow.alloc _) ⟨W.heap.size, 0, none⟩ 1 1 [.string s] rfl rfl (cell_one_new _ _ _) (by simp [Value.oneCell']) (by unfold maxLen; omega) (by omega) (by simp; omega) ?_; intro v' w1 hown' hgrow _; obtain ⟨g', cap', rfl⟩ := ownsRow_succ hown'; obtain ⟨k0, k1, k2, k3, k4, k5, k6⟩ := colq_app hp (by omega) hI.r0 hI.r1 hv hI.n hrow hgrow; have d2 := k2.cell; have f2 := k2.frozen; have m0 := k0.other n02 (.slice (some ⟨g', 0, none⟩) (pre.length + 1) cap'); have m1 := k1.other n12 (.slice (some ⟨g', 0, none⟩) (pre.length + 1) cap'); have m2 := k2.set (.slice (some ⟨g', 0, none⟩) (pre.length + 1) cap'); have m3 := k3.other n32 (.slice (some ⟨g', 0, none⟩) (pre.length + 1) cap'); have d3 := m3.cell; have f3 := m3.frozen; have e2 := (m2.other n23 (.int .i64 ((totB (strs pre) : Int) + (s.size : Int)))).cell; have q0 := m0.other n03 (.int .i64 ((totB (strs pre) : Int) + (s.size : Int))); have q0c := q0.cell; have q0f := q0.frozen; have q1 := m1.other n13 (.int .i64 ((totB (strs pre) : Int) + (s.size : Int))); have z1 := q1.other n10 (.string ⟨#[]⟩); have z1c := z1.cell; have z1f := z1.frozen)
          exact ⟨((k4.trans (KeepsOthers.setCell _ _ _)).trans (KeepsOthers.setCell _ _ _)).from _, ⟨(k5.setCell (p := ⟨p2, 0, none⟩) g2 _).setCell (p := ⟨p3, 0, none⟩) g3 _, fun k q1 q2 => ((grownBy_setCell' _ _ _).block k (by have := k6.size; simp; omega) (fun e => by injection e with e; omega)).trans (((grownBy_setCell' _ _ _).block k (by have := k6.size; omega) (fun e => by injection e with e; omega)).trans (k6.block k (by omega)))⟩,
            ⟨q0, q1, ⟨_, m2.other n23 _, by rw [List.length_append, strs_app, List.map_append]; exact own_store (own_store hown' l2) l3⟩, by
              rw [strs_app, totB_app, strs_one, tot_one]
              have := m3.set (.int .i64 ((totB (strs pre) : Int) + (s.size : Int)))
              exact this, hI.b.trans ((k5.setCell (p := ⟨p2, 0, none⟩) g2 _).setCell (p := ⟨p3, 0, none⟩) g3 _)⟩,
            by rw [strs_app, strs_one]; intro q; rcases List.mem_append.1 q with q | q; exact hW.1 q; exact hE (List.mem_singleton.1 q).symm, by rw [List.length_append]; show pre.length + 1 ≤ _; omega, by rw [strs_app, totB_app, strs_one, tot_one]; show totB (strs pre) + s.size ≤ _; omega⟩
  case done =>
    rintro D ys W hD rfl ⟨hI, hW⟩ hK
    have hDl := (Array.getElem?_eq_some_iff.1 hK).1
    have hge : w.heap.size ≤ D := by omega
    obtain ⟨v, hv, hrow⟩ := hI.l
    obtain ⟨A2, c2, rfl⟩ := owns_form hrow
    have hc2 := hv.cell
    have HS := pset_any (strs ys) A2 ys.length c2 W (strs_len ys).symm (by have := hW.2.1; omega) (fun s h => by
      obtain ⟨x, _, rfl⟩ := List.mem_map.1 h
      have := x.2; omega) (InC.own hrow)
    rw [set_same] at HS
    change Calls _ _ _ _ fun e w' => e = .returned (.string (setM (strs ys))) ∧ _ at HS
    have hbe := bnd_end hnd hW.1 (by rw [strs_len]; exact hW.2.1)
    by_cases hm : setM (strs ys) = ⟨#[]⟩
    · rw [if_pos hm] at hbe
      rw [hm] at HS
      gi_wp2_with (refine ⟨trivial, ?_⟩; gi_at_call 19; refine (callsIn_wide.2 HS).mono ?_; rintro e W5 ⟨rfl, hb5⟩; have b0 := box_below hI.r0 hb5; have b1 := box_below hI.r1 hb5; have hK5 := (hb5.block D hDl).trans hK; have hB5 := hI.b.trans (hb5.mono hI.b.size); have c0 := b0.cell; have f0 := b0.frozen; have c1 := b1.cell; have f1 := b1.frozen; have z1 := b1.other n10 (.string ⟨#[]⟩); have y1 := z1.cell; have x1 := z1.frozen; have u0 := (b0.set (.string ⟨#[]⟩)).other n01 (.int .i64 9); have u1 := z1.set (.int .i64 9))
      have hK' := ((KeepsOthers.setCell W5 ⟨p0, 0, none⟩ (.string ⟨#[]⟩)).trans (KeepsOthers.setCell _ ⟨p1, 0, none⟩ (.int .i64 9))).same D _ hK5 rfl
      have hBB := (hB5.setCell (p := ⟨p0, 0, none⟩) g0 (.string ⟨#[]⟩)).setCell (p := ⟨p1, 0, none⟩) g1 (.int .i64 9)
      refine ⟨by simp, .inl ⟨_, _, rfl, run_takeDeferred hK', ?_⟩⟩
      have hc0 := cell_kept u0.cell (grownBy_putObj' _ D (.deferred none)) (fun r e => by cases e; exact ⟨_, hK', rfl⟩)
      have hc1 := cell_kept u1.cell (grownBy_putObj' _ D (.deferred none)) (fun r e => by cases e; exact ⟨_, hK', rfl⟩)
      refine ⟨.tuple #[.string ⟨#[]⟩, .int .i64 9], ?_, by rw [hbe], hBB.trans (belowK_b (w := w) (Nat.le_refl _) _ D _ _ hge hK' rfl rfl)⟩
      simp [results, Tryz.f21, go_sem, hc0, hc1]
    · rw [if_neg hm] at hbe
      have he := isEmpty_toList (setM (strs ys))
      rw [decide_eq_false hm] at he
      generalize setM (strs ys) = m at *
      have he2 : m.toList.isEmpty = false := by rw [List.isEmpty_eq_false_iff]; intro q; rw [q] at he; cases he
      gi_wp2_with (refine ⟨trivial, ?_⟩; gi_at_call 19; refine (callsIn_wide.2 HS).mono ?_; rintro e W5 ⟨rfl, hb5⟩; have b0 := box_below hI.r0 hb5; have b1 := box_below hI.r1 hb5; have hK5 := (hb5.block D hDl).trans hK; have hB5 := hI.b.trans (hb5.mono hI.b.size); have c0 := b0.cell; have f0 := b0.frozen; have c1 := b1.cell; have f1 := b1.frozen; have z1 := b1.other n10 (.string m); have y1 := z1.cell; have x1 := z1.frozen; have u0 := (b0.set (.string m)).other n01 (.int .i64 0); have u1 := z1.set (.int .i64 0))
      have hK' := ((KeepsOthers.setCell W5 ⟨p0, 0, none⟩ (.string m)).trans (KeepsOthers.setCell _ ⟨p1, 0, none⟩ (.int .i64 0))).same D _ hK5 rfl
      have hBB := (hB5.setCell (p := ⟨p0, 0, none⟩) g0 (.string m)).setCell (p := ⟨p1, 0, none⟩) g1 (.int .i64 0)
      refine ⟨by simp, .inl ⟨_, _, rfl, run_takeDeferred hK', ?_⟩⟩
      have hc0 := cell_kept u0.cell (grownBy_putObj' _ D (.deferred none)) (fun r e => by cases e; exact ⟨_, hK', rfl⟩)
      have hc1 := cell_kept u1.cell (grownBy_putObj' _ D (.deferred none)) (fun r e => by cases e; exact ⟨_, hK', rfl⟩)
      refine ⟨.tuple #[.string m, .int .i64 0], ?_, by rw [hbe], hBB.trans (belowK_b (w := w) (Nat.le_refl _) _ D _ _ hge hK' rfl rfl)⟩
      simp [results, Tryz.f21, go_sem, hc0, hc1]
  case stop =>
    rintro D c pre W hD hpre ⟨rfl, ho, hX⟩ hK
    have hge : w.heap.size ≤ D := by omega
    have hbo : bnd (strs zs) = (⟨#[]⟩, 9) := bnd_over hnd (by
      rcases over_of hpre ho with h | h | h
      · exact .inl h
      · exact .inr (.inl (by rw [strs_len]; exact h))
      · exact .inr (.inr h))
    gi_wp2
    refine ⟨by simp, .inl ⟨_, _, rfl, run_takeDeferred hK, ?_⟩⟩
    have hc0 := cell_kept hX.r0.cell (grownBy_putObj' _ D (.deferred none)) (fun r e => by cases e; exact ⟨_, hK, rfl⟩)
    have hc1 := cell_kept hX.r1.cell (grownBy_putObj' _ D (.deferred none)) (fun r e => by cases e; exact ⟨_, hK, rfl⟩)
    refine ⟨.tuple #[.string ⟨#[]⟩, .int .i64 9], ?_, by rw [hbo], hX.b.trans (belowK_b (w := w) (Nat.le_refl _) W D _ _ hge hK rfl rfl)⟩
    simp [results, Tryz.f21, go_sem, hc0, hc1]

end Go.Proofs.YtkdlmgahkckjbaaGreat
