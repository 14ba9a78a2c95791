/- Alloc. Conditions: at most 65536 cells and 2^43 references. -/
-- by tools/gen_hph.py
import Derived.Test.YtcdapnhcgbkikaaHpG
namespace Go.Proofs.Ytcdapnhcgbkikaa
open Go.RowKit

/-- an append at the operation of a drawn region -/
theorem step_app {P : Program} {w : World} {ops : Array Oper} {o : Oper} {a : Act} {K : Act → World → Prop} {Q : Exit → Act → World → Prop} {E : Prop} (hgd : o.guard = none) (s x : Operand) (t : TypeId)
    (ho : o.op = .call { callee := .builtin .append, args := #[s, x], argTypes := #[t, t] })
    (base : Nat) (e : TypeId) (i : TypeInfo) (z : Value) (size bytes : Nat) (ht : P.underlying t = some (.slice e)) (hi : P.info? e = some i) (hz : i.zero = some z)
    (hsize : i.size = size) (hby : i.bytes = bytes) (hzs : z.cells.size = size) (hsz : 0 < size)
    (v : Value) (n : Nat) (xs : List Value) (hs : a.eval s = v) (hown : w.ownsRow base e size v n xs)
    (A : Option Addr) (m c : Nat) (news : List Value) (hx : a.eval x = .slice A m c) (hl : news.length = m * size) (hr : InC w A news) (h1 : ∀ u ∈ news, u.oneCell' = true)
    (h63 : n + m ≤ maxLen) (hbytes : (n + m) * bytes ≤ 140737488355328) (hbase : base ≤ w.heap.size)
    (h : ∀ v' w', w'.ownsRow base e size v' (n + m) (xs ++ news) → w.grownBy w' v.ownBlock → (v'.ownBlock = v.ownBlock ∨ v'.ownBlock = some w.heap.size) → K (a.put o.dst v') w') : if Region.wanted o (yielded ops a.tmps) = true then Oper.wp P o a w K Q else E := by
  have hw2 : Region.wanted o (yielded ops a.tmps) = true := by simp [Region.wanted, hgd]
  rw [if_pos hw2]
  exact wp_app w s x t ho base e i z size bytes ht hi hz hsize hby hzs hsz v n xs hs hown A m c news hx hl hr h1 h63 hbytes hbase h
theorem cell_infos : (Try.prog.info? 71).map (fun i => (i.zero, i.size, i.bytes)) = some (some (.agg #[.int .i64 0, .int .i64 0, .slice none 0 0, .int .i64 0]), 4, 48) := by kernel_rfl
theorem Lnk.snoc {cs : List PC} {Fn rk : Nat → Nat} (h : Lnk cs Fn rk) {y : PC} (hy : y.kind ≠ 3) : Lnk (cs ++ [y]) Fn rk := by
  have hs : ∀ (j : Nat) (z : PC), (cs ++ [y])[j]? = some z → cs[j]? = some z ∨ (j = cs.length ∧ z = y) := by
    intro j z hz
    by_cases hj : j < cs.length
    · rw [List.getElem?_append_left hj] at hz; exact .inl hz
    · rw [List.getElem?_append_right (by omega)] at hz
      obtain ⟨d, hd⟩ : ∃ d, j - cs.length = d := ⟨_, rfl⟩
      rw [hd] at hz
      cases d with
      | zero => exact .inr ⟨by omega, (Option.some.inj hz).symm⟩
      | succ d => simp at hz
  refine ⟨fun j z hz hk => ?_, fun j z hz hk => ?_, fun j hj => h.out j (by simp at hj; omega)⟩
  · rcases hs j z hz with q | ⟨_, q⟩
    · obtain ⟨a, h1, h2, h3⟩ := h.at_ j z q hk
      exact ⟨a, h1, by rw [List.length_append]; omega, h3⟩
    · subst q; exact absurd hk hy
  · rcases hs j z hz with q | ⟨q, _⟩
    · exact h.self j z q hk
    · exact h.out j (by omega)
theorem HM.snoc {f : PC → List Value} {z : Nat} {tb te : TypeId} {w w' : World} {S : Nat → Prop} {g : Nat} {most : Int} {cs : List PC} {A : Option Addr} {n c : Nat} {v' : Value} {y : PC} (h : HM f z tb te w S g most cs A n c) (h1 : te ≠ 3) (h2 : te ≠ tb) (h3 : tb ≠ 3)
    (hy : w.ownsRow 0 3 1 y.v y.refs.length (intV y.refs)) (hyf : ∀ b, y.v.ownBlock = some b → ¬ S b)
    (ho : w'.ownsRow 0 te z v' (n + 1) (cs.flatMap f ++ f y)) (hg : w.grownBy w' (Value.slice A n c).ownBlock) (hor : v'.ownBlock = (Value.slice A n c).ownBlock ∨ v'.ownBlock = some w.heap.size) :
    ∃ A' c', v' = .slice A' (n + 1) c' ∧ HM f z tb te (w'.setCell ⟨g, 1, none⟩ v') (fun k => S k ∨ y.v.ownBlock = some k ∨ v'.ownBlock = some k) g most (cs ++ [y]) A' (n + 1) c' ∧ Keep (Out S w) w (w'.setCell ⟨g, 1, none⟩ v') ∧ (∀ b, v'.ownBlock = some b → S b ∨ b = w.heap.size) := by
  obtain ⟨A', c', hv⟩ := owns_form ho
  subst hv
  have hgr : (Value.slice A n c).ownBlock ≠ some g := fun e => own_blk_ne h.row h.blk h2 e
  have hyr : ∀ b, y.v.ownBlock = some b → (Value.slice A n c).ownBlock ≠ some b := own_own_ne hy h.row (fun e => h1 e.symm)
  have hgw : some g ≠ (Value.slice A n c).ownBlock := fun e => hgr e.symm
  have hgb' := h.blk.grown hg hgw
  have hv'g : (Value.slice A' (n + 1) c').ownBlock ≠ some g := fun e => own_blk_ne ho hgb' h2 e
  have hx : ∀ (i : Nat) (x : PC), cs[i]? = some x → w'.ownsRow 0 3 1 x.v x.refs.length (intV x.refs) := fun i x hi => owns_other (h.refs i x hi) hg (fun k hk e => own_own_ne (h.refs i x hi) h.row (fun e => h1 e.symm) k hk e)
  have hy' : w'.ownsRow 0 3 1 y.v y.refs.length (intV y.refs) := owns_other hy hg (fun k hk e => hyr k hk e)
  have hig : ∀ (v : Value) (l : List Int), w'.ownsRow 0 3 1 v l.length (intV l) → v.ownBlock ≠ some g := fun v l q e => own_blk_ne q hgb' (fun e => h3 e.symm) e
  have hs : ∀ (j : Nat) (x : PC), (cs ++ [y])[j]? = some x → (j < cs.length ∧ cs[j]? = some x) ∨ (j = cs.length ∧ x = y) := by
    intro j x hz
    by_cases hj : j < cs.length
    · rw [List.getElem?_append_left hj] at hz; exact .inl ⟨hj, hz⟩
    · rw [List.getElem?_append_right (by omega)] at hz
      obtain ⟨d, hd⟩ : ∃ d, j - cs.length = d := ⟨_, rfl⟩
      rw [hd] at hz
      cases d with
      | zero => exact .inr ⟨by omega, (Option.some.inj hz).symm⟩
      | succ d => simp at hz
  refine ⟨A', c', rfl, ⟨?_, ?_, fun i x hi => ?_, fun i j x x' b hi hj hb hb' => ?_, .inl h.box, fun b hb => .inr (.inr hb), fun i x b hi hb => ?_, fun b hb => ?_⟩, ?_, fun b hb => ?_⟩
  · have := hgb'.set_ 1 (.slice A' (n + 1) c')
    exact this
  · rw [List.flatMap_append, List.flatMap_singleton]
    exact owns_set ho hv'g _
  · rcases hs i x hi with ⟨_, q⟩ | ⟨_, q⟩
    · exact owns_set (hx i x q) (hig _ _ (hx i x q)) _
    · subst q; exact owns_set hy' (hig _ _ hy') _
  · rcases hs i x hi with ⟨q0, q⟩ | ⟨q0, q⟩
    · rcases hs j x' hj with ⟨r0, r⟩ | ⟨r0, r⟩
      · exact h.apart i j x x' b q r hb hb'
      · subst r; exact absurd (h.refS i x b q hb) (hyf b hb')
    · rcases hs j x' hj with ⟨r0, r⟩ | ⟨r0, r⟩
      · subst q; exact absurd (h.refS j x' b r hb') (hyf b hb)
      · omega
  · rcases hs i x hi with ⟨_, q⟩ | ⟨_, q⟩
    · exact .inl (h.refS i x b q hb)
    · subst q; exact .inr (.inl hb)
  · have hsz : (w'.setCell ⟨g, 1, none⟩ (.slice A' (n + 1) c')).heap.size = w'.heap.size := by simp [World.setCell]
    rw [hsz]
    rcases hb with q | q | q
    · exact Nat.lt_of_lt_of_le (h.lt b q) hg.size
    · exact (hy'.lt b q).2
    · exact (ho.lt b q).2
  · have k1 : Keep (Out S w) w w' := ⟨hg.os, hg.tape, hg.output, hg.size, fun k hk => hg.block k hk.1 (fun e => hk.2 (h.rowS k e.symm))⟩
    exact k1.setCell (p := ⟨g, 1, none⟩) (fun q => q.2 h.box) _
  · rcases hor with q | q
    · exact .inl (h.rowS b (q ▸ hb))
    · rw [q] at hb
      injection hb with hb
      exact .inr hb.symm
def allocM (most : Int) (M : List Cel) (c : Cel) : Int × Int × List Cel :=
  if (newB c.1 && refsB c.2.2 ((M.length : Int) + 1)) = true then
    if most ≤ (M.length : Int) then (0, 10, M) else ((M.length : Int), 0, M ++ [c])
  else (0, 1, M)
def AllocPost (w : World) (S : Nat → Prop) (g : Nat) (most : Int) (Fn : Nat → Nat) (q : Int × Int × List Cel) (e : Ending) (w' : World) : Prop :=
  e = .returned (.tuple #[.int .i64 q.1, .int .i64 q.2.1]) ∧ PH w' (Sx S w w') g most q.2.2 Fn ∧ Keep (Out S w) w w'
theorem cellsP_one (x : PC) (hv : ∃ A n c, x.v = .slice A n c) : ∀ u ∈ cellsP x, u.oneCell' = true := by
  intro u hu
  obtain ⟨A, n, c, hv⟩ := hv
  unfold cellsP at hu
  rw [hv] at hu
  simp at hu
  rcases hu with rfl | rfl | rfl | rfl <;> rfl
/-- what an Alloc that adds a cell comes to -/
theorem alloc_end {w w8 w9 : World} {S : Nat → Prop} {g : Nat} {most : Int} {cs : List PC} {M : List Cel} {A A6 : Option Addr} {n c c6 : Nat} {Fn rk : Nat → Nat} {k m : Int} {l : List Int} {v9 : Value} (hS : ∀ b, S b → b < w.heap.size) (hcm : cs.map PC.cel = M) (hk : k ≠ 3)
    (h : PL w8 S g most cs A n c Fn rk) (hb : Below w.heap.size w w8) (hy : w8.ownsRow w.heap.size 3 1 (.slice A6 l.length c6) l.length (intV l))
    (ho : w9.ownsRow 0 71 4 v9 (n + 1) (cs.flatMap cellsP ++ [.int .i64 k, .int .i64 m, .slice A6 l.length c6, .int .i64 0])) (hg : w8.grownBy w9 (Value.slice A n c).ownBlock) (hor : v9.ownBlock = (Value.slice A n c).ownBlock ∨ v9.ownBlock = some w8.heap.size) :
    PH (w9.setCell ⟨g, 1, none⟩ v9) (Sx S w (w9.setCell ⟨g, 1, none⟩ v9)) g most (M ++ [(k, m, l)]) Fn ∧ Keep (Out S w) w (w9.setCell ⟨g, 1, none⟩ v9) := by
  obtain ⟨A', c', hv, hM, hK, hB⟩ := h.hp.snoc (y := ⟨k, m, l, .slice A6 l.length c6, 0⟩) (by decide) (by decide) (by decide) (owns_base hy (Nat.zero_le _)) (fun b q r => by have := (hy.lt b q).1; have := hS b r; omega) ho hg hor
  have hKK : Keep (Out S w) w (w9.setCell ⟨g, 1, none⟩ v9) := (keep_below hb : Keep (Out S w) w w8).trans (hK.mono (fun b q => ⟨Nat.lt_of_lt_of_le q.1 hb.size, q.2⟩))
  refine ⟨?_, hKK⟩
  have hp : PH (w9.setCell ⟨g, 1, none⟩ v9) _ g most (M ++ [(k, m, l)]) Fn := ⟨_, A', n + 1, c', rk, ⟨hM, h.lk.snoc (y := ⟨k, m, l, .slice A6 l.length c6, 0⟩) hk⟩, by rw [List.map_append, hcm]; rfl⟩
  refine hp.grow (fun b q => ?_) (Sx.lt hS hKK.size)
  rcases q with q | q | q
  · exact .inl q
  · exact .inr ⟨(hy.lt b q).1, Nat.lt_of_lt_of_le (hM.lt b (.inr (.inl q))) (Nat.le_refl _)⟩
  · rcases hB b q with r | r
    · exact .inl r
    · exact .inr ⟨by have := hb.size; omega, hM.lt b (.inr (.inr q))⟩
set_option linter.unusedSimpArgs false in
set_option maxRecDepth 100000 in
set_option maxHeartbeats 6400000 in
theorem alloc_any {w : World} {S : Nat → Prop} {g : Nat} {most : Int} {M : List Cel} {Fn : Nat → Nat} (h : PH w S g most M Fn) (hM : M.length ≤ 65536) (k m : Int) (l : List Int) (A2 : Option Addr) (n2 c2 : Nat) (hn2 : n2 = l.length) (hl2 : n2 ≤ 8796093022208) (hA2 : InC w A2 (intV l)) :
    Calls Try.prog 14 #[.pointer (some ⟨g, 0, none⟩), .agg #[.int .i64 k, .int .i64 m, .slice A2 n2 c2]] w (AllocPost w S g most Fn (allocM most M (k, m, l))) := by
  have HLT := hide h.lt
  obtain ⟨cs, A, n, c, rk, h1, h2⟩ := h
  have hn : n = M.length := by rw [h1.hp.len cellsP_len (by decide), cel_len h2]
  obtain ⟨i0, hi0, hiz0, hiz1, hiz2⟩ := info_parts cell_infos
  obtain ⟨b5, hb5⟩ : ∃ b, Hid (b = w.heap.size) := ⟨_, Lib.hid rfl⟩
  have hb5w : w.heap.size ≤ b5 := Nat.le_of_eq hb5.out.symm
  have hb5g : b5 ≠ g := by have := h1.hp.gS; omega
  have HP1 := hide (h1.keep_alloc (.cells #[.int .i64 k, .int .i64 m, .slice A2 n2 c2] 43))
  have HK1 := hide (Blk.new w 43 #[.int .i64 k, .int .i64 m, .slice A2 n2 c2])
  have HB1 := hide ((Below.refl w.heap.size w).alloc (Nat.le_refl _) (.cells #[.int .i64 k, .int .i64 m, .slice A2 n2 c2] 43))
  have HI1 := hide (hA2.alloc (.cells #[.int .i64 k, .int .i64 m, .slice A2 n2 c2] 43))
  rw [← hb5.out] at HK1
  obtain ⟨qr, hqr⟩ : ∃ q, Hid (q = allocM most M (k, m, l)) := ⟨_, Lib.hid rfl⟩
  rw [← hqr.out]
  have HQ : Hid (qr = if (newB k && refsB l ((n : Int) + 1)) = true then if most ≤ (n : Int) then (0, 10, M) else ((n : Int), 0, M ++ [(k, m, l)]) else (0, 1, M)) := Lib.hid (by rw [hqr.out, hn]; rfl)
  have HOK : Hid (∀ W, Below w.heap.size w W → PL W S g most cs A n c Fn rk → ∀ z : Int, qr = (0, z, M) → AllocPost w S g most Fn qr (.returned (.tuple #[.int .i64 0, .int .i64 z])) W) := Lib.hid (fun W hb hP z hz => by
    rw [hz]
    exact ⟨rfl, (show PH W S g most M Fn from ⟨cs, A, n, c, rk, hP, h2⟩).sx h1.hp.lt hb.size, keep_below hb⟩)
  have HCM := Lib.hid h2
  have hn6 : n ≤ 65536 := by omega
  have HV := hide (fun W hI => validRefs_any l A2 n2 c2 ((n : Int) + 1) W hn2 hl2 hI)
  have HCP := hide (fun W hI => copied_any k m l A2 n2 c2 W hn2 hl2 hI)
  have HN := hide (fun W => isNew_any k W)
  have HN2 := Lib.hid hn2
  clear h1 h2 hn hn2 hqr hA2 hM
  cases hk : newB k with
  | false =>
    rw [hk] at HN HQ
    have HQ2 : Hid (qr = (0, 1, M)) := Lib.hid (by rw [HQ.out]; simp)
    clear HQ hk
    go_enter Try.func14, Try.ntmps14
    have b1 := (unhide HP1).hp.box1
    go_wp2_with fail
    simp only [← hb5.out]
    generalize w.alloc (.cells #[.int .i64 k, .int .i64 m, .slice A2 n2 c2] 43) = w1 at *
    have a0 := (unhide HK1).cell 0
    change w1.cell? ⟨b5, 0, none⟩ = some (.int .i64 k) at a0
    go_wp2_with fail
    refine ((unhide HN) _).mono ?_
    rintro e w2 ⟨rfl, hw2⟩
    subst hw2
    go_wp2_with fail
    go_ret2
    exact HOK.out _ (unhide HB1) (unhide HP1) 1 HQ2.out
  | true =>
    have hk3 : k ≠ 3 := by
      rintro rfl
      cases hk
    have HK3 := hide hk3
    rw [hk] at HN HQ
    rw [Bool.true_and] at HQ
    clear hk3 hk
    cases hv : refsB l ((n : Int) + 1) with
    | false =>
      rw [hv] at HV HQ
      have HQ2 : Hid (qr = (0, 1, M)) := Lib.hid (by rw [HQ.out]; simp)
      clear HQ hv
      go_enter Try.func14, Try.ntmps14
      have b1 := (unhide HP1).hp.box1
      go_wp2_with fail
      simp only [← hb5.out]
      generalize w.alloc (.cells #[.int .i64 k, .int .i64 m, .slice A2 n2 c2] 43) = w1 at *
      have a0 := (unhide HK1).cell 0
      have a2 := (unhide HK1).cell 2
      change w1.cell? ⟨b5, 0, none⟩ = some (.int .i64 k) at a0
      change w1.cell? ⟨b5, 2, none⟩ = some (.slice A2 n2 c2) at a2
      go_wp2_with fail
      refine ((unhide HN) _).mono ?_
      rintro e w2 ⟨rfl, hw2⟩
      subst hw2
      go_wp2_with fail
      refine ((unhide HV) _ (unhide HI1)).mono ?_
      rintro e w3 ⟨rfl, hw3⟩
      subst hw3
      go_wp2_with fail
      go_ret2
      exact HOK.out _ (unhide HB1) (unhide HP1) 1 HQ2.out
    | true =>
      rw [hv] at HV HQ
      rw [if_pos rfl] at HQ
      clear hv
      go_enter Try.func14, Try.ntmps14
      have b1 := (unhide HP1).hp.box1
      go_wp2_with fail
      simp only [← hb5.out]
      generalize w.alloc (.cells #[.int .i64 k, .int .i64 m, .slice A2 n2 c2] 43) = w1 at *
      have a0 := (unhide HK1).cell 0
      have a1 := (unhide HK1).cell 1
      have a2 := (unhide HK1).cell 2
      change w1.cell? ⟨b5, 0, none⟩ = some (.int .i64 k) at a0
      change w1.cell? ⟨b5, 1, none⟩ = some (.int .i64 m) at a1
      change w1.cell? ⟨b5, 2, none⟩ = some (.slice A2 n2 c2) at a2
      have b0 := (unhide HP1).hp.box0
      go_wp2_with fail
      refine ((unhide HN) _).mono ?_
      rintro e w2 ⟨rfl, hw2⟩
      subst hw2
      by_cases hm : most ≤ (n : Int)
      · have gm : decide (most ≤ (n : Int)) = true := decide_eq_true hm
        have HQ2 : Hid (qr = (0, 10, M)) := Lib.hid (by rw [HQ.out, if_pos hm])
        clear HQ hm
        go_wp2_with fail
        refine ((unhide HV) _ (unhide HI1)).mono ?_
        rintro e w3 ⟨rfl, hw3⟩
        subst hw3
        go_wp2_with fail
        go_ret2
        exact HOK.out _ (unhide HB1) (unhide HP1) 10 HQ2.out
      · have gm : decide (most ≤ (n : Int)) = false := decide_eq_false hm
        have HQ2 : Hid (qr = ((n : Int), 0, M ++ [(k, m, l)])) := Lib.hid (by rw [HQ.out, if_neg hm])
        clear HQ hm HOK
        go_wp2_with fail
        refine ((unhide HV) _ (unhide HI1)).mono ?_
        rintro e w3 ⟨rfl, hw3⟩
        subst hw3
        go_wp2_with fail
        have HP3 := hide ((unhide HP1).keep ((Keep.refl _ _).drew))
        have HB3 := hide (below_drew (unhide HB1))
        have HI3 := hide (unhide HI1).drew
        clear HP1 HB1 HI1 HK1 HV HN b1 b0
        have fd0 : Hid (w3.drew.cell? ⟨b5, 0, none⟩ = some (.int .i64 k)) := hide a0
        have fd1 : Hid (w3.drew.cell? ⟨b5, 1, none⟩ = some (.int .i64 m)) := hide a1
        have fd2 : Hid (w3.drew.cell? ⟨b5, 2, none⟩ = some (.slice A2 n2 c2)) := hide a2
        clear a0 a1 a2
        refine wp_region_noPanic ?_
        refine wp_region_held_drew (S := fun W => W.cell? ⟨b5, 0, none⟩ = some (.int .i64 k) ∧ W.cell? ⟨b5, 1, none⟩ = some (.int .i64 m) ∧ W.cell? ⟨b5, 2, none⟩ = some (.slice A2 n2 c2)) (by kernel_rfl) ⟨fd0, fd1, fd2⟩ (fun _ => ?_)
        generalize w3.drew = wd at *
        try simp only [Act.put, List.setIfInBounds_toArray, List.set_cons_zero, List.set_cons_succ]
        refine wpAnyH_take (i := 0) (oi := { dst := some 30, op := Op.move (Operand.tmp 0), type := 23, pos := "heap.go:33", after := #[], guard := none }) (v := ?_) rfl (by kernel_rfl) (by kernel_rfl) (by kernel_rfl) (fun _ _ _ h => h) (Or.inl ⟨by rfl, ?_⟩) ⟨fd0, fd1, fd2⟩ ?_
        rotate_left 1
        · intro w hSw
          obtain ⟨hSw0, hSw1, hSw2⟩ := hSw
          go_simp
          first
            | done
            | with_reducible rfl
            | rw [if_neg (by omega)]
        try simp only [Act.put, List.setIfInBounds_toArray, List.set_cons_zero, List.set_cons_succ]
        refine wpAnyH_take (i := 1) (oi := { dst := some 31, op := Op.move (Operand.tmp 0), type := 23, pos := "heap.go:33", after := #[], guard := none }) (v := ?_) rfl (by kernel_rfl) (by kernel_rfl) (by kernel_rfl) (fun _ _ _ h => h) (Or.inl ⟨by rfl, ?_⟩) ⟨fd0, fd1, fd2⟩ ?_
        rotate_left 1
        · intro w hSw
          obtain ⟨hSw0, hSw1, hSw2⟩ := hSw
          go_simp
          first
            | done
            | with_reducible rfl
            | rw [if_neg (by omega)]
        try simp only [Act.put, List.setIfInBounds_toArray, List.set_cons_zero, List.set_cons_succ]
        refine wpAnyH_take (i := 2) (oi := { dst := some 32, op := Op.nilCheck (Operand.tmp 31), type := 0, pos := "heap.go:33", after := #[{ on := 1, ground := Ground.data }], guard := none }) (v := ?_) rfl (by kernel_rfl) (by kernel_rfl) (by kernel_rfl) (fun _ _ _ h => h) (Or.inl ⟨by rfl, ?_⟩) ⟨fd0, fd1, fd2⟩ ?_
        rotate_left 1
        · intro w hSw
          obtain ⟨hSw0, hSw1, hSw2⟩ := hSw
          go_simp
          first
            | done
            | with_reducible rfl
            | rw [if_neg (by omega)]
        try simp only [Act.put, List.setIfInBounds_toArray, List.set_cons_zero, List.set_cons_succ]
        refine wpAnyH_take (i := 3) (oi := { dst := some 33, op := Op.fieldAddr 66 (Operand.tmp 32) 1, type := 0, pos := "heap.go:33", after := #[{ on := 2, ground := Ground.data }], guard := none }) (v := ?_) rfl (by kernel_rfl) (by kernel_rfl) (by kernel_rfl) (fun _ _ _ h => h) (Or.inl ⟨by rfl, ?_⟩) ⟨fd0, fd1, fd2⟩ ?_
        rotate_left 1
        · intro w hSw
          obtain ⟨hSw0, hSw1, hSw2⟩ := hSw
          go_simp
          first
            | done
            | with_reducible rfl
            | rw [if_neg (by omega)]
        try simp only [Act.put, List.setIfInBounds_toArray, List.set_cons_zero, List.set_cons_succ]
        refine wpAnyH_take (i := 5) (oi := { dst := some 35, op := Op.load 43 (Operand.tmp 3), type := 43, pos := "heap.go:33", after := #[], guard := none }) (v := ?_) rfl (by kernel_rfl) (by kernel_rfl) (by kernel_rfl) (fun _ _ _ h => h) (Or.inl ⟨by rfl, ?_⟩) ⟨fd0, fd1, fd2⟩ ?_
        rotate_left 1
        · intro w hSw
          obtain ⟨hSw0, hSw1, hSw2⟩ := hSw
          go_simp
          first
            | done
            | with_reducible rfl
            | rw [if_neg (by omega)]
        try simp only [Act.put, List.setIfInBounds_toArray, List.set_cons_zero, List.set_cons_succ]
        refine wpAnyH_ready (rs := [4, 6]) (by kernel_rfl) (by simp) ?_
        refine (AllReadyH.cons (o := { dst := some 34, op := Op.load 64 (Operand.tmp 33), type := 64, pos := "heap.go:33", after := #[{ on := 3, ground := Ground.data }], guard := none }) rfl (fun K hK => ?_) (AllReadyH.cons (o := { dst := some 36, op := Op.call { callee := Callee.value (Operand.func 39), args := #[Operand.tmp 35], argTypes := #[43] }, type := 43, pos := "heap.go:33", after := #[{ on := 5, ground := Ground.data }], guard := none }) rfl (fun K hK => ?_) AllReadyH.nil))
        · have b1_701 := (unhide HP3).hp.box1
          go_simp
          try dsimp only
          refine hK.out _ _ ⟨fd0, fd1, fd2⟩ (fun _ => ?_)
          clear hK K
          try simp only [Act.put, List.setIfInBounds_toArray, List.set_cons_zero, List.set_cons_succ]
          refine wpAnyH_ready (rs := [6]) (by kernel_rfl) (by simp) ?_
          refine (AllReadyH.cons (o := { dst := some 36, op := Op.call { callee := Callee.value (Operand.func 39), args := #[Operand.tmp 35], argTypes := #[43] }, type := 43, pos := "heap.go:33", after := #[{ on := 5, ground := Ground.data }], guard := none }) rfl (fun K hK => ?_) AllReadyH.nil)
          go_simp
          go_at_call 39
          refine ((unhide HCP) _ (unhide HI3)).mono ?_
          rintro e w702 ⟨v6, rfl, ho6, hb6⟩
          have fe702_0 := hide (cell_down hb6 (unhide fd0))
          have fe702_1 := hide (cell_down hb6 (unhide fd1))
          have fe702_2 := hide (cell_down hb6 (unhide fd2))
          have HP702 := hide ((unhide HP3).below hb6)
          have HB702 := hide ((unhide HB3).trans (hb6.mono (unhide HB3).size))
          have HO702 := hide (owns_base ho6 (unhide HB3).size)
          obtain ⟨A6, c6, hv6⟩ := owns_form ho6
          subst hv6
          clear ho6 hb6
          try dsimp only
          refine hK.out _ _ ⟨unhide fe702_0, unhide fe702_1, unhide fe702_2⟩ (fun _ => ?_)
          clear hK K
          try simp only [Act.put, List.setIfInBounds_toArray, List.set_cons_zero, List.set_cons_succ]
          refine wpAnyH_take (i := 7) (oi := { dst := some 37, op := Op.build 71 #[(0, Operand.tmp 36)], type := 71, pos := "heap.go:33", after := #[{ on := 6, ground := Ground.data }], guard := none }) (v := ?_) rfl (by kernel_rfl) (by kernel_rfl) (by kernel_rfl) (fun _ _ _ h => h) (Or.inl ⟨by rfl, ?_⟩) ⟨unhide fe702_0, unhide fe702_1, unhide fe702_2⟩ ?_
          rotate_left 1
          · intro w hSw
            obtain ⟨hSw0, hSw1, hSw2⟩ := hSw
            go_simp
            first
              | done
              | with_reducible rfl
              | rw [if_neg (by omega)]
          try simp only [Act.put, List.setIfInBounds_toArray, List.set_cons_zero, List.set_cons_succ]
          refine wpAnyH_ready (rs := [8]) (by kernel_rfl) (by simp) ?_
          refine (AllReadyH.cons (o := { dst := some 38, op := Op.buildSlice 64 1 #[(0, Operand.tmp 37)], type := 64, pos := "heap.go:33", after := #[{ on := 7, ground := Ground.data }], guard := none }) rfl (fun K hK => ?_) AllReadyH.nil)
          have hb703 : Below w702.heap.size w702 (w702.alloc (.cells #[.int .i64 k, .int .i64 m, .slice A6 l.length c6, .int .i64 0] 71)) := (Below.refl _ _).alloc (Nat.le_refl _) _
          have fe703_0 := hide (cell_down hb703 (unhide fe702_0))
          have fe703_1 := hide (cell_down hb703 (unhide fe702_1))
          have fe703_2 := hide (cell_down hb703 (unhide fe702_2))
          have HP703 := hide ((unhide HP702).below hb703)
          have HB703 := hide ((unhide HB702).alloc (unhide HB702).size (.cells #[.int .i64 k, .int .i64 m, .slice A6 l.length c6, .int .i64 0] 71))
          have HO703 := hide ((unhide HO702).alloc (.cells #[.int .i64 k, .int .i64 m, .slice A6 l.length c6, .int .i64 0] 71))
          have HL703 := hide (new_in w702 71 #[.int .i64 k, .int .i64 m, .slice A6 l.length c6, .int .i64 0])
          clear hb703
          go_simp
          try dsimp only
          refine hK.out _ (w702.alloc (.cells #[.int .i64 k, .int .i64 m, .slice A6 l.length c6, .int .i64 0] 71)) ⟨unhide fe703_0, unhide fe703_1, unhide fe703_2⟩ (fun _ => ?_)
          clear hK K
          generalize hwe703 : w702.alloc (.cells #[.int .i64 k, .int .i64 m, .slice A6 l.length c6, .int .i64 0] 71) = wl703 at *
          clear hwe703
          generalize hbe703 : w702.heap.size = bl703 at *
          clear hbe703
          try simp only [Act.put, List.setIfInBounds_toArray, List.set_cons_zero, List.set_cons_succ]
          refine wpAnyH_ready (rs := [9]) (by kernel_rfl) (by simp) ?_
          refine (AllReadyH.cons (o := { dst := some 39, op := Op.call { callee := Callee.builtin Builtin.append, args := #[Operand.tmp 34, Operand.tmp 38], argTypes := #[64, 64] }, type := 64, pos := "heap.go:33", after := #[{ on := 4, ground := Ground.data }, { on := 8, ground := Ground.data }, { on := 6, ground := Ground.chain }], guard := none }) rfl (fun K hK => ?_) AllReadyH.nil)
          refine step_app rfl _ _ 64 rfl 0 71 i0 _ 4 48 Try.underlying64 hi0 hiz0 hiz1 hiz2 rfl (by decide) (.slice A n c) n (cs.flatMap cellsP) rfl (unhide HP703).hp.row (some ⟨bl703, 0, none⟩) 1 1 [.int .i64 k, .int .i64 m, .slice A6 l.length c6, .int .i64 0] rfl rfl (unhide HL703) (cellsP_one ⟨k, m, l, .slice A6 l.length c6, 0⟩ ⟨_, _, _, rfl⟩) (by unfold maxLen; omega) (by omega) (Nat.zero_le _) ?_
          intro v704 w704 hown704 hgrow704 hor704
          obtain ⟨A9, c9, hv9⟩ := owns_form hown704
          subst hv9
          have HE704 := hide (alloc_end (unhide HLT) HCM.out (unhide HK3) (unhide HP703) (unhide HB703) (unhide HO703) hown704 hgrow704 hor704)
          have hg1_704 := (unhide HP703).hp.blk.grown hgrow704 (fun e => own_blk_ne (unhide HP703).hp.row (unhide HP703).hp.blk (by decide) e.symm)
          have hb5r704 : ∀ o u, wl703.cell? ⟨b5, o, none⟩ = some u → w704.cell? ⟨b5, o, none⟩ = some u := fun o u q => hgrow704.cell q (fun e => by have := (unhide HLT) b5 ((unhide HP703).hp.rowS b5 e.symm); omega)
          have fe704_0 := hide (hb5r704 _ _ (unhide fe703_0))
          have fe704_1 := hide (hb5r704 _ _ (unhide fe703_1))
          have fe704_2 := hide (hb5r704 _ _ (unhide fe703_2))
          have HG704 := hide hg1_704
          clear hown704 hgrow704 hor704 hg1_704 hb5r704
          refine hK.out _ _ ⟨unhide fe704_0, unhide fe704_1, unhide fe704_2⟩ (fun _ => ?_)
          clear hK K
          try simp only [Act.put, List.setIfInBounds_toArray, List.set_cons_zero, List.set_cons_succ]
          refine wpAnyH_take (i := 10) (oi := { dst := some 40, op := Op.nilCheck (Operand.tmp 30), type := 0, pos := "heap.go:33", after := #[{ on := 0, ground := Ground.data }, { on := 0, ground := Ground.phase }, { on := 1, ground := Ground.phase }, { on := 2, ground := Ground.phase }, { on := 3, ground := Ground.phase }, { on := 4, ground := Ground.phase }, { on := 5, ground := Ground.phase }, { on := 6, ground := Ground.phase }, { on := 7, ground := Ground.phase }, { on := 8, ground := Ground.phase }, { on := 9, ground := Ground.phase }], guard := none }) (v := ?_) rfl (by kernel_rfl) (by kernel_rfl) (by kernel_rfl) (fun _ _ _ h => h) (Or.inl ⟨by rfl, ?_⟩) ⟨unhide fe704_0, unhide fe704_1, unhide fe704_2⟩ ?_
          rotate_left 1
          · intro w hSw
            obtain ⟨hSw0, hSw1, hSw2⟩ := hSw
            go_simp
            first
              | done
              | with_reducible rfl
              | rw [if_neg (by omega)]
          try simp only [Act.put, List.setIfInBounds_toArray, List.set_cons_zero, List.set_cons_succ]
          refine wpAnyH_take (i := 11) (oi := { dst := some 41, op := Op.fieldAddr 66 (Operand.tmp 40) 1, type := 0, pos := "heap.go:33", after := #[{ on := 10, ground := Ground.data }, { on := 0, ground := Ground.phase }, { on := 1, ground := Ground.phase }, { on := 2, ground := Ground.phase }, { on := 3, ground := Ground.phase }, { on := 4, ground := Ground.phase }, { on := 5, ground := Ground.phase }, { on := 6, ground := Ground.phase }, { on := 7, ground := Ground.phase }, { on := 8, ground := Ground.phase }, { on := 9, ground := Ground.phase }], guard := none }) (v := ?_) rfl (by kernel_rfl) (by kernel_rfl) (by kernel_rfl) (fun _ _ _ h => h) (Or.inl ⟨by rfl, ?_⟩) ⟨unhide fe704_0, unhide fe704_1, unhide fe704_2⟩ ?_
          rotate_left 1
          · intro w hSw
            obtain ⟨hSw0, hSw1, hSw2⟩ := hSw
            go_simp
            first
              | done
              | with_reducible rfl
              | rw [if_neg (by omega)]
          try simp only [Act.put, List.setIfInBounds_toArray, List.set_cons_zero, List.set_cons_succ]
          refine wpAnyH_ready (rs := [12]) (by kernel_rfl) (by simp) ?_
          refine (AllReadyH.cons (o := { dst := none, op := Op.store 64 (Operand.tmp 41) (Operand.tmp 39), type := 0, pos := "heap.go:33", after := #[{ on := 11, ground := Ground.data }, { on := 9, ground := Ground.data }, { on := 9, ground := Ground.chain }, { on := 0, ground := Ground.phase }, { on := 1, ground := Ground.phase }, { on := 2, ground := Ground.phase }, { on := 3, ground := Ground.phase }, { on := 4, ground := Ground.phase }, { on := 5, ground := Ground.phase }, { on := 6, ground := Ground.phase }, { on := 7, ground := Ground.phase }, { on := 8, ground := Ground.phase }, { on := 9, ground := Ground.phase }], guard := none }) rfl (fun K hK => ?_) AllReadyH.nil)
          have b1_705 := (unhide HG704).cell 1
          have f1_705 := (unhide HG704).frozen 1
          change w704.cell? ⟨g, 1, none⟩ = some (.slice A n c) at b1_705
          have kS705 := (Keep.refl (fun b => b ≠ g) w704).setCell (p := ⟨g, 1, none⟩) (fun q => q rfl) (.slice A9 (n + 1) c9)
          go_simp
          try dsimp only
          refine hK.out _ _ ⟨((kS705.cell (b := b5) hb5g 0).trans (unhide fe704_0)), ((kS705.cell (b := b5) hb5g 1).trans (unhide fe704_1)), ((kS705.cell (b := b5) hb5g 2).trans (unhide fe704_2))⟩ (fun _ => ?_)
          clear hK K
          try simp only [Act.put, List.setIfInBounds_toArray, List.set_cons_zero, List.set_cons_succ]
          refine wpAnyH_done (by kernel_rfl) ?_ _
          refine NoPanic.normal ?_
          go_wp2_with fail
          go_ret2
          rw [HQ2.out]
          exact ⟨rfl, (unhide HE704).1, (unhide HE704).2⟩
        · go_simp
          go_at_call 39
          refine ((unhide HCP) _ (unhide HI3)).mono ?_
          rintro e w706 ⟨v6, rfl, ho6, hb6⟩
          have fe706_0 := hide (cell_down hb6 (unhide fd0))
          have fe706_1 := hide (cell_down hb6 (unhide fd1))
          have fe706_2 := hide (cell_down hb6 (unhide fd2))
          have HP706 := hide ((unhide HP3).below hb6)
          have HB706 := hide ((unhide HB3).trans (hb6.mono (unhide HB3).size))
          have HO706 := hide (owns_base ho6 (unhide HB3).size)
          obtain ⟨A6, c6, hv6⟩ := owns_form ho6
          subst hv6
          clear ho6 hb6
          try dsimp only
          refine hK.out _ _ ⟨unhide fe706_0, unhide fe706_1, unhide fe706_2⟩ (fun _ => ?_)
          clear hK K
          try simp only [Act.put, List.setIfInBounds_toArray, List.set_cons_zero, List.set_cons_succ]
          refine wpAnyH_take (i := 7) (oi := { dst := some 37, op := Op.build 71 #[(0, Operand.tmp 36)], type := 71, pos := "heap.go:33", after := #[{ on := 6, ground := Ground.data }], guard := none }) (v := ?_) rfl (by kernel_rfl) (by kernel_rfl) (by kernel_rfl) (fun _ _ _ h => h) (Or.inl ⟨by rfl, ?_⟩) ⟨unhide fe706_0, unhide fe706_1, unhide fe706_2⟩ ?_
          rotate_left 1
          · intro w hSw
            obtain ⟨hSw0, hSw1, hSw2⟩ := hSw
            go_simp
            first
              | done
              | with_reducible rfl
              | rw [if_neg (by omega)]
          try simp only [Act.put, List.setIfInBounds_toArray, List.set_cons_zero, List.set_cons_succ]
          refine wpAnyH_ready (rs := [4, 8]) (by kernel_rfl) (by simp) ?_
          refine (AllReadyH.cons (o := { dst := some 34, op := Op.load 64 (Operand.tmp 33), type := 64, pos := "heap.go:33", after := #[{ on := 3, ground := Ground.data }], guard := none }) rfl (fun K hK => ?_) (AllReadyH.cons (o := { dst := some 38, op := Op.buildSlice 64 1 #[(0, Operand.tmp 37)], type := 64, pos := "heap.go:33", after := #[{ on := 7, ground := Ground.data }], guard := none }) rfl (fun K hK => ?_) AllReadyH.nil))
          · have b1_707 := (unhide HP706).hp.box1
            go_simp
            try dsimp only
            refine hK.out _ _ ⟨unhide fe706_0, unhide fe706_1, unhide fe706_2⟩ (fun _ => ?_)
            clear hK K
            try simp only [Act.put, List.setIfInBounds_toArray, List.set_cons_zero, List.set_cons_succ]
            refine wpAnyH_ready (rs := [8]) (by kernel_rfl) (by simp) ?_
            refine (AllReadyH.cons (o := { dst := some 38, op := Op.buildSlice 64 1 #[(0, Operand.tmp 37)], type := 64, pos := "heap.go:33", after := #[{ on := 7, ground := Ground.data }], guard := none }) rfl (fun K hK => ?_) AllReadyH.nil)
            have hb708 : Below w706.heap.size w706 (w706.alloc (.cells #[.int .i64 k, .int .i64 m, .slice A6 l.length c6, .int .i64 0] 71)) := (Below.refl _ _).alloc (Nat.le_refl _) _
            have fe708_0 := hide (cell_down hb708 (unhide fe706_0))
            have fe708_1 := hide (cell_down hb708 (unhide fe706_1))
            have fe708_2 := hide (cell_down hb708 (unhide fe706_2))
            have HP708 := hide ((unhide HP706).below hb708)
            have HB708 := hide ((unhide HB706).alloc (unhide HB706).size (.cells #[.int .i64 k, .int .i64 m, .slice A6 l.length c6, .int .i64 0] 71))
            have HO708 := hide ((unhide HO706).alloc (.cells #[.int .i64 k, .int .i64 m, .slice A6 l.length c6, .int .i64 0] 71))
            have HL708 := hide (new_in w706 71 #[.int .i64 k, .int .i64 m, .slice A6 l.length c6, .int .i64 0])
            clear hb708
            go_simp
            try dsimp only
            refine hK.out _ (w706.alloc (.cells #[.int .i64 k, .int .i64 m, .slice A6 l.length c6, .int .i64 0] 71)) ⟨unhide fe708_0, unhide fe708_1, unhide fe708_2⟩ (fun _ => ?_)
            clear hK K
            generalize hwe708 : w706.alloc (.cells #[.int .i64 k, .int .i64 m, .slice A6 l.length c6, .int .i64 0] 71) = wl708 at *
            clear hwe708
            generalize hbe708 : w706.heap.size = bl708 at *
            clear hbe708
            try simp only [Act.put, List.setIfInBounds_toArray, List.set_cons_zero, List.set_cons_succ]
            refine wpAnyH_ready (rs := [9]) (by kernel_rfl) (by simp) ?_
            refine (AllReadyH.cons (o := { dst := some 39, op := Op.call { callee := Callee.builtin Builtin.append, args := #[Operand.tmp 34, Operand.tmp 38], argTypes := #[64, 64] }, type := 64, pos := "heap.go:33", after := #[{ on := 4, ground := Ground.data }, { on := 8, ground := Ground.data }, { on := 6, ground := Ground.chain }], guard := none }) rfl (fun K hK => ?_) AllReadyH.nil)
            refine step_app rfl _ _ 64 rfl 0 71 i0 _ 4 48 Try.underlying64 hi0 hiz0 hiz1 hiz2 rfl (by decide) (.slice A n c) n (cs.flatMap cellsP) rfl (unhide HP708).hp.row (some ⟨bl708, 0, none⟩) 1 1 [.int .i64 k, .int .i64 m, .slice A6 l.length c6, .int .i64 0] rfl rfl (unhide HL708) (cellsP_one ⟨k, m, l, .slice A6 l.length c6, 0⟩ ⟨_, _, _, rfl⟩) (by unfold maxLen; omega) (by omega) (Nat.zero_le _) ?_
            intro v709 w709 hown709 hgrow709 hor709
            obtain ⟨A9, c9, hv9⟩ := owns_form hown709
            subst hv9
            have HE709 := hide (alloc_end (unhide HLT) HCM.out (unhide HK3) (unhide HP708) (unhide HB708) (unhide HO708) hown709 hgrow709 hor709)
            have hg1_709 := (unhide HP708).hp.blk.grown hgrow709 (fun e => own_blk_ne (unhide HP708).hp.row (unhide HP708).hp.blk (by decide) e.symm)
            have hb5r709 : ∀ o u, wl708.cell? ⟨b5, o, none⟩ = some u → w709.cell? ⟨b5, o, none⟩ = some u := fun o u q => hgrow709.cell q (fun e => by have := (unhide HLT) b5 ((unhide HP708).hp.rowS b5 e.symm); omega)
            have fe709_0 := hide (hb5r709 _ _ (unhide fe708_0))
            have fe709_1 := hide (hb5r709 _ _ (unhide fe708_1))
            have fe709_2 := hide (hb5r709 _ _ (unhide fe708_2))
            have HG709 := hide hg1_709
            clear hown709 hgrow709 hor709 hg1_709 hb5r709
            refine hK.out _ _ ⟨unhide fe709_0, unhide fe709_1, unhide fe709_2⟩ (fun _ => ?_)
            clear hK K
            try simp only [Act.put, List.setIfInBounds_toArray, List.set_cons_zero, List.set_cons_succ]
            refine wpAnyH_take (i := 10) (oi := { dst := some 40, op := Op.nilCheck (Operand.tmp 30), type := 0, pos := "heap.go:33", after := #[{ on := 0, ground := Ground.data }, { on := 0, ground := Ground.phase }, { on := 1, ground := Ground.phase }, { on := 2, ground := Ground.phase }, { on := 3, ground := Ground.phase }, { on := 4, ground := Ground.phase }, { on := 5, ground := Ground.phase }, { on := 6, ground := Ground.phase }, { on := 7, ground := Ground.phase }, { on := 8, ground := Ground.phase }, { on := 9, ground := Ground.phase }], guard := none }) (v := ?_) rfl (by kernel_rfl) (by kernel_rfl) (by kernel_rfl) (fun _ _ _ h => h) (Or.inl ⟨by rfl, ?_⟩) ⟨unhide fe709_0, unhide fe709_1, unhide fe709_2⟩ ?_
            rotate_left 1
            · intro w hSw
              obtain ⟨hSw0, hSw1, hSw2⟩ := hSw
              go_simp
              first
                | done
                | with_reducible rfl
                | rw [if_neg (by omega)]
            try simp only [Act.put, List.setIfInBounds_toArray, List.set_cons_zero, List.set_cons_succ]
            refine wpAnyH_take (i := 11) (oi := { dst := some 41, op := Op.fieldAddr 66 (Operand.tmp 40) 1, type := 0, pos := "heap.go:33", after := #[{ on := 10, ground := Ground.data }, { on := 0, ground := Ground.phase }, { on := 1, ground := Ground.phase }, { on := 2, ground := Ground.phase }, { on := 3, ground := Ground.phase }, { on := 4, ground := Ground.phase }, { on := 5, ground := Ground.phase }, { on := 6, ground := Ground.phase }, { on := 7, ground := Ground.phase }, { on := 8, ground := Ground.phase }, { on := 9, ground := Ground.phase }], guard := none }) (v := ?_) rfl (by kernel_rfl) (by kernel_rfl) (by kernel_rfl) (fun _ _ _ h => h) (Or.inl ⟨by rfl, ?_⟩) ⟨unhide fe709_0, unhide fe709_1, unhide fe709_2⟩ ?_
            rotate_left 1
            · intro w hSw
              obtain ⟨hSw0, hSw1, hSw2⟩ := hSw
              go_simp
              first
                | done
                | with_reducible rfl
                | rw [if_neg (by omega)]
            try simp only [Act.put, List.setIfInBounds_toArray, List.set_cons_zero, List.set_cons_succ]
            refine wpAnyH_ready (rs := [12]) (by kernel_rfl) (by simp) ?_
            refine (AllReadyH.cons (o := { dst := none, op := Op.store 64 (Operand.tmp 41) (Operand.tmp 39), type := 0, pos := "heap.go:33", after := #[{ on := 11, ground := Ground.data }, { on := 9, ground := Ground.data }, { on := 9, ground := Ground.chain }, { on := 0, ground := Ground.phase }, { on := 1, ground := Ground.phase }, { on := 2, ground := Ground.phase }, { on := 3, ground := Ground.phase }, { on := 4, ground := Ground.phase }, { on := 5, ground := Ground.phase }, { on := 6, ground := Ground.phase }, { on := 7, ground := Ground.phase }, { on := 8, ground := Ground.phase }, { on := 9, ground := Ground.phase }], guard := none }) rfl (fun K hK => ?_) AllReadyH.nil)
            have b1_710 := (unhide HG709).cell 1
            have f1_710 := (unhide HG709).frozen 1
            change w709.cell? ⟨g, 1, none⟩ = some (.slice A n c) at b1_710
            have kS710 := (Keep.refl (fun b => b ≠ g) w709).setCell (p := ⟨g, 1, none⟩) (fun q => q rfl) (.slice A9 (n + 1) c9)
            go_simp
            try dsimp only
            refine hK.out _ _ ⟨((kS710.cell (b := b5) hb5g 0).trans (unhide fe709_0)), ((kS710.cell (b := b5) hb5g 1).trans (unhide fe709_1)), ((kS710.cell (b := b5) hb5g 2).trans (unhide fe709_2))⟩ (fun _ => ?_)
            clear hK K
            try simp only [Act.put, List.setIfInBounds_toArray, List.set_cons_zero, List.set_cons_succ]
            refine wpAnyH_done (by kernel_rfl) ?_ _
            refine NoPanic.normal ?_
            go_wp2_with fail
            go_ret2
            rw [HQ2.out]
            exact ⟨rfl, (unhide HE709).1, (unhide HE709).2⟩
          · have hb711 : Below w706.heap.size w706 (w706.alloc (.cells #[.int .i64 k, .int .i64 m, .slice A6 l.length c6, .int .i64 0] 71)) := (Below.refl _ _).alloc (Nat.le_refl _) _
            have fe711_0 := hide (cell_down hb711 (unhide fe706_0))
            have fe711_1 := hide (cell_down hb711 (unhide fe706_1))
            have fe711_2 := hide (cell_down hb711 (unhide fe706_2))
            have HP711 := hide ((unhide HP706).below hb711)
            have HB711 := hide ((unhide HB706).alloc (unhide HB706).size (.cells #[.int .i64 k, .int .i64 m, .slice A6 l.length c6, .int .i64 0] 71))
            have HO711 := hide ((unhide HO706).alloc (.cells #[.int .i64 k, .int .i64 m, .slice A6 l.length c6, .int .i64 0] 71))
            have HL711 := hide (new_in w706 71 #[.int .i64 k, .int .i64 m, .slice A6 l.length c6, .int .i64 0])
            clear hb711
            go_simp
            try dsimp only
            refine hK.out _ (w706.alloc (.cells #[.int .i64 k, .int .i64 m, .slice A6 l.length c6, .int .i64 0] 71)) ⟨unhide fe711_0, unhide fe711_1, unhide fe711_2⟩ (fun _ => ?_)
            clear hK K
            generalize hwe711 : w706.alloc (.cells #[.int .i64 k, .int .i64 m, .slice A6 l.length c6, .int .i64 0] 71) = wl711 at *
            clear hwe711
            generalize hbe711 : w706.heap.size = bl711 at *
            clear hbe711
            try simp only [Act.put, List.setIfInBounds_toArray, List.set_cons_zero, List.set_cons_succ]
            refine wpAnyH_ready (rs := [4]) (by kernel_rfl) (by simp) ?_
            refine (AllReadyH.cons (o := { dst := some 34, op := Op.load 64 (Operand.tmp 33), type := 64, pos := "heap.go:33", after := #[{ on := 3, ground := Ground.data }], guard := none }) rfl (fun K hK => ?_) AllReadyH.nil)
            have b1_712 := (unhide HP711).hp.box1
            go_simp
            try dsimp only
            refine hK.out _ _ ⟨unhide fe711_0, unhide fe711_1, unhide fe711_2⟩ (fun _ => ?_)
            clear hK K
            try simp only [Act.put, List.setIfInBounds_toArray, List.set_cons_zero, List.set_cons_succ]
            refine wpAnyH_ready (rs := [9]) (by kernel_rfl) (by simp) ?_
            refine (AllReadyH.cons (o := { dst := some 39, op := Op.call { callee := Callee.builtin Builtin.append, args := #[Operand.tmp 34, Operand.tmp 38], argTypes := #[64, 64] }, type := 64, pos := "heap.go:33", after := #[{ on := 4, ground := Ground.data }, { on := 8, ground := Ground.data }, { on := 6, ground := Ground.chain }], guard := none }) rfl (fun K hK => ?_) AllReadyH.nil)
            refine step_app rfl _ _ 64 rfl 0 71 i0 _ 4 48 Try.underlying64 hi0 hiz0 hiz1 hiz2 rfl (by decide) (.slice A n c) n (cs.flatMap cellsP) rfl (unhide HP711).hp.row (some ⟨bl711, 0, none⟩) 1 1 [.int .i64 k, .int .i64 m, .slice A6 l.length c6, .int .i64 0] rfl rfl (unhide HL711) (cellsP_one ⟨k, m, l, .slice A6 l.length c6, 0⟩ ⟨_, _, _, rfl⟩) (by unfold maxLen; omega) (by omega) (Nat.zero_le _) ?_
            intro v713 w713 hown713 hgrow713 hor713
            obtain ⟨A9, c9, hv9⟩ := owns_form hown713
            subst hv9
            have HE713 := hide (alloc_end (unhide HLT) HCM.out (unhide HK3) (unhide HP711) (unhide HB711) (unhide HO711) hown713 hgrow713 hor713)
            have hg1_713 := (unhide HP711).hp.blk.grown hgrow713 (fun e => own_blk_ne (unhide HP711).hp.row (unhide HP711).hp.blk (by decide) e.symm)
            have hb5r713 : ∀ o u, wl711.cell? ⟨b5, o, none⟩ = some u → w713.cell? ⟨b5, o, none⟩ = some u := fun o u q => hgrow713.cell q (fun e => by have := (unhide HLT) b5 ((unhide HP711).hp.rowS b5 e.symm); omega)
            have fe713_0 := hide (hb5r713 _ _ (unhide fe711_0))
            have fe713_1 := hide (hb5r713 _ _ (unhide fe711_1))
            have fe713_2 := hide (hb5r713 _ _ (unhide fe711_2))
            have HG713 := hide hg1_713
            clear hown713 hgrow713 hor713 hg1_713 hb5r713
            refine hK.out _ _ ⟨unhide fe713_0, unhide fe713_1, unhide fe713_2⟩ (fun _ => ?_)
            clear hK K
            try simp only [Act.put, List.setIfInBounds_toArray, List.set_cons_zero, List.set_cons_succ]
            refine wpAnyH_take (i := 10) (oi := { dst := some 40, op := Op.nilCheck (Operand.tmp 30), type := 0, pos := "heap.go:33", after := #[{ on := 0, ground := Ground.data }, { on := 0, ground := Ground.phase }, { on := 1, ground := Ground.phase }, { on := 2, ground := Ground.phase }, { on := 3, ground := Ground.phase }, { on := 4, ground := Ground.phase }, { on := 5, ground := Ground.phase }, { on := 6, ground := Ground.phase }, { on := 7, ground := Ground.phase }, { on := 8, ground := Ground.phase }, { on := 9, ground := Ground.phase }], guard := none }) (v := ?_) rfl (by kernel_rfl) (by kernel_rfl) (by kernel_rfl) (fun _ _ _ h => h) (Or.inl ⟨by rfl, ?_⟩) ⟨unhide fe713_0, unhide fe713_1, unhide fe713_2⟩ ?_
            rotate_left 1
            · intro w hSw
              obtain ⟨hSw0, hSw1, hSw2⟩ := hSw
              go_simp
              first
                | done
                | with_reducible rfl
                | rw [if_neg (by omega)]
            try simp only [Act.put, List.setIfInBounds_toArray, List.set_cons_zero, List.set_cons_succ]
            refine wpAnyH_take (i := 11) (oi := { dst := some 41, op := Op.fieldAddr 66 (Operand.tmp 40) 1, type := 0, pos := "heap.go:33", after := #[{ on := 10, ground := Ground.data }, { on := 0, ground := Ground.phase }, { on := 1, ground := Ground.phase }, { on := 2, ground := Ground.phase }, { on := 3, ground := Ground.phase }, { on := 4, ground := Ground.phase }, { on := 5, ground := Ground.phase }, { on := 6, ground := Ground.phase }, { on := 7, ground := Ground.phase }, { on := 8, ground := Ground.phase }, { on := 9, ground := Ground.phase }], guard := none }) (v := ?_) rfl (by kernel_rfl) (by kernel_rfl) (by kernel_rfl) (fun _ _ _ h => h) (Or.inl ⟨by rfl, ?_⟩) ⟨unhide fe713_0, unhide fe713_1, unhide fe713_2⟩ ?_
            rotate_left 1
            · intro w hSw
              obtain ⟨hSw0, hSw1, hSw2⟩ := hSw
              go_simp
              first
                | done
                | with_reducible rfl
                | rw [if_neg (by omega)]
            try simp only [Act.put, List.setIfInBounds_toArray, List.set_cons_zero, List.set_cons_succ]
            refine wpAnyH_ready (rs := [12]) (by kernel_rfl) (by simp) ?_
            refine (AllReadyH.cons (o := { dst := none, op := Op.store 64 (Operand.tmp 41) (Operand.tmp 39), type := 0, pos := "heap.go:33", after := #[{ on := 11, ground := Ground.data }, { on := 9, ground := Ground.data }, { on := 9, ground := Ground.chain }, { on := 0, ground := Ground.phase }, { on := 1, ground := Ground.phase }, { on := 2, ground := Ground.phase }, { on := 3, ground := Ground.phase }, { on := 4, ground := Ground.phase }, { on := 5, ground := Ground.phase }, { on := 6, ground := Ground.phase }, { on := 7, ground := Ground.phase }, { on := 8, ground := Ground.phase }, { on := 9, ground := Ground.phase }], guard := none }) rfl (fun K hK => ?_) AllReadyH.nil)
            have b1_714 := (unhide HG713).cell 1
            have f1_714 := (unhide HG713).frozen 1
            change w713.cell? ⟨g, 1, none⟩ = some (.slice A n c) at b1_714
            have kS714 := (Keep.refl (fun b => b ≠ g) w713).setCell (p := ⟨g, 1, none⟩) (fun q => q rfl) (.slice A9 (n + 1) c9)
            go_simp
            try dsimp only
            refine hK.out _ _ ⟨((kS714.cell (b := b5) hb5g 0).trans (unhide fe713_0)), ((kS714.cell (b := b5) hb5g 1).trans (unhide fe713_1)), ((kS714.cell (b := b5) hb5g 2).trans (unhide fe713_2))⟩ (fun _ => ?_)
            clear hK K
            try simp only [Act.put, List.setIfInBounds_toArray, List.set_cons_zero, List.set_cons_succ]
            refine wpAnyH_done (by kernel_rfl) ?_ _
            refine NoPanic.normal ?_
            go_wp2_with fail
            go_ret2
            rw [HQ2.out]
            exact ⟨rfl, (unhide HE713).1, (unhide HE713).2⟩
end Go.Proofs.Ytcdapnhcgbkikaa
