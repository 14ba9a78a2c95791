/- Enter. Conditions: cells have at most 4096 references. -/
import Derived.Test.YtcdapnhcgbkikaaHpD
namespace Go.Proofs.Ytcdapnhcgbkikaa
open Go.RowKit

def enterM (M : List Cel) (Fn : Nat → Nat) (r : Int) : Cel × Int × List Cel :=
  if hasB M.length r = true then
    if (cellM M (Fn r.toNat)).1 = 1 then (cellM M (Fn r.toNat), 0, M.set (Fn r.toNat) (2, (cellM M (Fn r.toNat)).2.1, []))
    else if (cellM M (Fn r.toNat)).1 = 2 then (nilC, 14, M) else (nilC, 20, M)
  else (nilC, 21, M)
def EnterPost (w : World) (S : Nat → Prop) (g : Nat) (most : Int) (Fn : Nat → Nat) (q : Cel × Int × List Cel) (e : Ending) (w' : World) : Prop :=
  ∃ v, e = .returned (.tuple #[.agg #[.int .i64 q.1.1, .int .i64 q.1.2.1, v], .int .i64 q.2.1]) ∧ (w'.ownsRow 0 3 1 v q.1.2.2.length (intV q.1.2.2) ∧ ∀ b, v.ownBlock = some b → S b) ∧ PH w' S g most q.2.2 Fn ∧ Keep (Out S w) w w'
theorem Lnk.set_ {cs : List PC} {Fn rk : Nat → Nat} (h : Lnk cs Fn rk) {i : Nat} {x y : PC} (hi : cs[i]? = some x) (hx : x.kind ≠ 3) (hy : y.kind ≠ 3) : Lnk (cs.set i y) Fn rk := by
  have hs : ∀ (j : Nat) (z : PC), (cs.set i y)[j]? = some z → (j ≠ i ∧ cs[j]? = some z) ∨ (j = i ∧ z = y) := by
    intro j z hz
    by_cases hj : i = j
    · subst hj
      rw [set_self_at hi] at hz
      exact .inr ⟨rfl, (Option.some.inj hz).symm⟩
    · rw [List.getElem?_set_ne hj] at hz
      exact .inl ⟨fun q => hj q.symm, hz⟩
  refine ⟨fun j z hz hk => ?_, fun j z hz hk => ?_, fun j hj => h.out j (by simpa using hj)⟩
  · rw [List.length_set]
    rcases hs j z hz with ⟨_, q⟩ | ⟨_, q⟩
    · exact h.at_ j z q hk
    · subst q; exact absurd hk hy
  · rcases hs j z hz with ⟨_, q⟩ | ⟨q1, q2⟩
    · exact h.self j z q hk
    · subst q1; exact h.self j x hi hx
theorem cel_set {cs : List PC} {M : List Cel} (h : cs.map PC.cel = M) (i : Nat) (y : PC) : (cs.set i y).map PC.cel = M.set i y.cel := by rw [List.map_set, h]
/-- four stores: one cell is another one -/
theorem PL.put {w : World} {S S' : Nat → Prop} {g : Nat} {most : Int} {cs : List PC} {A : Option Addr} {n c : Nat} {Fn rk Fn' rk' : Nat → Nat} (h : PL w S g most cs A n c Fn rk) {i b : Nat} {y : PC} (hA : A = some ⟨b, 0, none⟩) (hi : i < cs.length)
    (hl : Lnk (cs.set i y) Fn' rk') (hy : w.ownsRow 0 3 1 y.v y.refs.length (intV y.refs)) (hy2 : ∀ b, y.v.ownBlock = some b → S' b ∧ ∀ (j : Nat) (x : PC), j ≠ i → cs[j]? = some x → x.v.ownBlock ≠ some b) (hS : ∀ k, S k → S' k) (hS' : ∀ k, S' k → k < w.heap.size) :
    PL ((((w.setCell ⟨b, i * 4, none⟩ (.int .i64 y.kind)).setCell ⟨b, i * 4 + 1, none⟩ (.int .i64 y.num)).setCell ⟨b, i * 4 + 2, none⟩ y.v).setCell ⟨b, i * 4 + 3, none⟩ (.int .i64 y.ahead)) S' g most (cs.set i y) A n c Fn' rk' ∧
      ∀ (Pr : Nat → Prop), ¬ Pr b → Keep Pr w ((((w.setCell ⟨b, i * 4, none⟩ (.int .i64 y.kind)).setCell ⟨b, i * 4 + 1, none⟩ (.int .i64 y.num)).setCell ⟨b, i * 4 + 2, none⟩ y.v).setCell ⟨b, i * 4 + 3, none⟩ (.int .i64 y.ahead)) := by
  have hk : ∀ (Pr : Nat → Prop), ¬ Pr b → Keep Pr w ((((w.setCell ⟨b, i * 4, none⟩ (.int .i64 y.kind)).setCell ⟨b, i * 4 + 1, none⟩ (.int .i64 y.num)).setCell ⟨b, i * 4 + 2, none⟩ y.v).setCell ⟨b, i * 4 + 3, none⟩ (.int .i64 y.ahead)) := fun Pr hp =>
    ((((Keep.refl Pr w).setCell (p := ⟨b, i * 4, none⟩) hp _).setCell (p := ⟨b, i * 4 + 1, none⟩) hp _).setCell (p := ⟨b, i * 4 + 2, none⟩) hp _).setCell (p := ⟨b, i * 4 + 3, none⟩) hp _
  have hr := row_set4 (y := y) h.hp.row hA hi
  refine ⟨⟨h.hp.set_ (S' := S') (i := i) (by decide) (by decide) (hk _ (fun q => q.2 (by rw [hA]; rfl))) hr ?_ hy2 hS (fun k q => Nat.lt_of_lt_of_le (hS' k q) (hk (fun _ => False) id).size), hl⟩, hk⟩
  subst hA
  have hne : y.v.ownBlock ≠ some b := fun e => own_own_ne hy h.hp.row (by decide) b e rfl
  exact owns_set (owns_set (owns_set (owns_set hy hne _) hne _) hne _) hne _
set_option maxRecDepth 100000 in
set_option maxHeartbeats 6400000 in
theorem enter_any {w : World} {S : Nat → Prop} {g : Nat} {most : Int} {M : List Cel} {Fn : Nat → Nat} (h : PH w S g most M Fn) (r : Int) : Calls Try.prog 15 #[.pointer (some ⟨g, 0, none⟩), .int .i64 r] w (EnterPost w S g most Fn (enterM M Fn r)) := by
  have HH := hide h
  obtain ⟨cs, A, n, c, rk, h1, h2⟩ := h
  have hn : n = M.length := by rw [h1.hp.len cellsP_len (by decide), cel_len h2]
  have hn2 := h1.hp.len cellsP_len (by decide)
  have H1 := hide (h1.keep_alloc (.cells #[.int .i64 0, .int .i64 0, .slice none 0 0] 43))
  have HC := hide (has_any (unhide H1).hp r)
  have HB1 := hide ((Below.refl w.heap.size w).alloc (Nat.le_refl _) (.cells #[.int .i64 0, .int .i64 0, .slice none 0 0] 43))
  have HK1 := hide (Blk.new w 43 #[.int .i64 0, .int .i64 0, .slice none 0 0])
  obtain ⟨b, hb⟩ : ∃ b, Hid (b = w.heap.size) := ⟨_, Lib.hid rfl⟩
  have hbw : w.heap.size ≤ b := Nat.le_of_eq hb.out.symm
  have hbS : ¬ S b := fun q => by have := h1.hp.lt b q; omega
  obtain ⟨qr, hqr⟩ : ∃ q, Hid (q = enterM M Fn r) := ⟨_, Lib.hid rfl⟩
  rw [← hqr.out]
  have HSL := hide h1.hp.lt
  clear h1
  rw [← hb.out] at HK1
  cases hbb : hasB n r with
  | false =>
    rw [hbb] at HC
    have HQ : Hid (qr = (nilC, 21, M)) := Lib.hid (by rw [hqr.out]; unfold enterM; rw [← hn, hbb, if_neg (by decide)])
    clear h2 hbb H1 hn hn2 hqr
    go_enter Try.func15, Try.ntmps15
    go_wp2_with fail
    simp only [← hb.out]
    generalize w.alloc (.cells #[.int .i64 0, .int .i64 0, .slice none 0 0] 43) = w1 at *
    refine (unhide HC).mono ?_
    rintro e w2 ⟨rfl, hw2⟩
    subst hw2
    have a0 := (unhide HK1).cell 0
    have a1 := (unhide HK1).cell 1
    have a2 := (unhide HK1).cell 2
    have f0 := (unhide HK1).frozen 0
    have f1 := (unhide HK1).frozen 1
    have f2 := (unhide HK1).frozen 2
    change w2.cell? ⟨b, 0, none⟩ = some (.int .i64 0) at a0
    change w2.cell? ⟨b, 1, none⟩ = some (.int .i64 0) at a1
    change w2.cell? ⟨b, 2, none⟩ = some (.slice none 0 0) at a2
    go_wp2_with fail
    have K3 := (((unhide HK1).set_ 0 (.int .i64 0)).set_ 1 (.int .i64 0)).set_ 2 (.slice none 0 0)
    have e0 := K3.cell 0
    have e1 := K3.cell 1
    have e2 := K3.cell 2
    have HB3 := (((unhide HB1).setCell (p := ⟨b, 0, none⟩) hbw (.int .i64 0)).setCell (p := ⟨b, 1, none⟩) hbw (.int .i64 0)).setCell (p := ⟨b, 2, none⟩) hbw (.slice none 0 0)
    refine bodyPost_ret (v := .tuple #[.agg #[.int .i64 0, .int .i64 0, .slice none 0 0], .int .i64 21]) ?_ rfl (by rw [HQ.out]; exact ⟨_, rfl, ⟨World.ownsRow_nil _ _ _ _, fun b q => by cases q⟩, (unhide HH).below HB3, keep_below HB3⟩)
    simp [results, Try.f15, go_sem, e0, e1, e2]
  | true =>
    obtain ⟨i, hri, hin⟩ := has_nat hbb
    subst hri
    rw [hbb] at HC
    have HQ : Hid (qr = if (cellM M (Fn i)).1 = 1 then (cellM M (Fn i), 0, M.set (Fn i) (2, (cellM M (Fn i)).2.1, [])) else if (cellM M (Fn i)).1 = 2 then (nilC, 14, M) else (nilC, 20, M)) := Lib.hid (by rw [hqr.out]; unfold enterM; rw [← hn, hbb, if_pos rfl, Int.toNat_natCast])
    have HF := hide (find_any (unhide H1) hin)
    have HX : Hid (∀ (cs' : List PC), Same cs cs' → Lnk cs' Fn rk → ∃ x : PC, cs'[Fn i]? = some x ∧ x.cel = cellM M (Fn i) ∧ x.kind ≠ 3) := Lib.hid (fun cs' hs hl => by
      obtain ⟨_, x, hx, hxk⟩ := hl.found _ i (Nat.le_refl _) (by rw [hs.len]; omega)
      have q := cel_at (hs.cel.trans h2) hx
      exact ⟨x, hx, by unfold cellM; rw [q]; rfl, hxk⟩)
    have HCM := Lib.hid h2
    have HNN := Lib.hid hn2
    clear h2 hbb hn hn2 hqr
    go_enter Try.func15, Try.ntmps15
    go_wp2_with fail
    simp only [← hb.out]
    generalize w.alloc (.cells #[.int .i64 0, .int .i64 0, .slice none 0 0] 43) = w1 at *
    refine (unhide HC).mono ?_
    rintro e w2 ⟨rfl, hw2⟩
    subst hw2
    go_wp2_with fail
    refine (unhide HF).mono ?_
    rintro e w3 ⟨cs', rfl, hP, hs, hk⟩
    obtain ⟨x, hx, hxc, hx3⟩ := HX.out cs' hs hP.lk
    have HK3 := hide ((unhide HK1).keep hk ⟨(unhide HK1).lt, hbS⟩)
    have HKE := hide (keep_trans (keep_below (unhide HB1)) hk : Keep (Out S w) w w3)
    obtain ⟨k, m, l, v, ah⟩ := x
    -- the cell's own box
    obtain ⟨b7, hb7⟩ : ∃ z, Hid (z = w3.heap.size) := ⟨_, Lib.hid rfl⟩
    have hb7w : w3.heap.size ≤ b7 := Nat.le_of_eq hb7.out.symm
    have hb7S : ¬ S b7 := fun q => by have := hP.hp.lt b7 q; omega
    have hbb7 : b ≠ b7 := by have := (unhide HK3).lt; omega
    obtain ⟨W, hW⟩ : ∃ W, Hid (W = w3.alloc (.cells #[.int .i64 k, .int .i64 m, v] 43)) := ⟨_, Lib.hid rfl⟩
    have hP7 := hP.keep_alloc (.cells #[.int .i64 k, .int .i64 m, v] 43)
    have hK7 := Blk.new w3 43 #[.int .i64 k, .int .i64 m, v]
    have hK37 := (unhide HK3).alloc (.cells #[.int .i64 k, .int .i64 m, v] 43)
    have hKE7 : Keep (Out S w) w (w3.alloc (.cells #[.int .i64 k, .int .i64 m, v] 43)) := keep_trans (unhide HKE) (keep_below ((Below.refl _ _).alloc (Nat.le_refl _) _))
    obtain ⟨bb, hA, hbb, hnc, hfn, ⟨c0, c1, c2, c3⟩, -⟩ := hP.hp.at_ hx
    subst hA
    have b1 := hP.hp.box1
    have HCX := hide (hxc : PC.cel ⟨k, m, l, v, ah⟩ = cellM M (Fn i))
    have HSM := Lib.hid hs
    have HXX := hide hx
    have HX3 := hide hx3
    obtain ⟨fi, hfi⟩ : ∃ z, Hid (z = Fn i) := ⟨_, Lib.hid rfl⟩
    rw [← hfi.out] at c0 c1 c2 c3 hfn HXX
    rw [← hfi.out] at HQ ⊢
    rw [← hb7.out] at hK7
    have g0 : (0 : Int) ≤ (fi : Int) := by omega
    have g1 : (fi : Int) < (n : Int) := by omega
    dsimp only at c0 c1 c2 c3 hx3
    have hE : cellM M fi = (k, m, l) := by rw [hfi.out]; exact hxc.symm
    rw [hE] at HQ
    change Hid (qr = if k = 1 then ((k, m, l), 0, M.set fi (2, m, [])) else if k = 2 then (nilC, 14, M) else (nilC, 20, M)) at HQ
    obtain ⟨Av, cv, hv⟩ := owns_form (hP.hp.refs _ _ hx)
    dsimp only at hv
    subst hv
    have HPP7 := hide hP7
    have HK7 := hide hK7
    have HK37 := hide hK37
    have HKE7 := hide hKE7
    clear hP hs hk hxc hx HX HF HC H1 c3 hE hP7 hK7 hK37 hKE7 hx3 HCX
    have a0 := (unhide HK37).cell 0
    have a1 := (unhide HK37).cell 1
    have a2 := (unhide HK37).cell 2
    have f0 := (unhide HK37).frozen 0
    have f1 := (unhide HK37).frozen 1
    have f2 := (unhide HK37).frozen 2
    have d0 := (unhide HK7).cell 0
    have d1 := (unhide HK7).cell 1
    have d2 := (unhide HK7).cell 2
    have HP9 : Hid (∀ u0 u1 u2 : Value, PH ((((w3.alloc (.cells #[.int .i64 k, .int .i64 m, .slice Av l.length cv] 43)).setCell ⟨b, 0, none⟩ u0).setCell ⟨b, 1, none⟩ u1).setCell ⟨b, 2, none⟩ u2) S g most M Fn ∧ Keep (Out S w) w ((((w3.alloc (.cells #[.int .i64 k, .int .i64 m, .slice Av l.length cv] 43)).setCell ⟨b, 0, none⟩ u0).setCell ⟨b, 1, none⟩ u1).setCell ⟨b, 2, none⟩ u2)) := Lib.hid (fun u0 u1 u2 => ⟨⟨cs', _, n, c, rk, (unhide HPP7).keep ((((Keep.refl S _).setCell (p := ⟨b, 0, none⟩) hbS _).setCell (p := ⟨b, 1, none⟩) hbS _).setCell (p := ⟨b, 2, none⟩) hbS _), HSM.out.cel.trans HCM.out⟩,
      (((unhide HKE7).setCell (p := ⟨b, 0, none⟩) (fun q => absurd q.1 (Nat.not_lt.2 hbw)) _).setCell (p := ⟨b, 1, none⟩) (fun q => absurd q.1 (Nat.not_lt.2 hbw)) _).setCell (p := ⟨b, 2, none⟩) (fun q => absurd q.1 (Nat.not_lt.2 hbw)) _⟩)
    by_cases hk2 : k = 2
    · subst hk2
      have HQ2 : Hid (qr = (nilC, 14, M)) := HQ
      clear HQ
      go_wp2_with fail
      have K5 := (((unhide HK37).set_ 0 (.int .i64 0)).set_ 1 (.int .i64 0)).set_ 2 (.slice none 0 0)
      have e0 := K5.cell 0
      have e1 := K5.cell 1
      have e2 := K5.cell 2
      have hP9 := HP9.out (.int .i64 0) (.int .i64 0) (.slice none 0 0)
      refine bodyPost_ret (v := .tuple #[.agg #[.int .i64 0, .int .i64 0, .slice none 0 0], .int .i64 14]) ?_ rfl (by rw [HQ2.out]; exact ⟨_, rfl, ⟨World.ownsRow_nil _ _ _ _, fun b q => by cases q⟩, hP9.1, hP9.2⟩)
      simp [results, Try.f15, go_sem, e0, e1, e2]
    · have gk2 : (k == 2) = false := beq_eq_false_iff_ne.2 hk2
      by_cases hk1 : k = 1
      · subst hk1
        have HQ2 : Hid (qr = ((1, m, l), 0, M.set fi (2, m, []))) := HQ
        clear HQ gk2 hk2
        go_wp2_with fail
        simp only [← hb7.out]
        have c0' := (World.cell?_alloc_lt w3 (.cells #[.int .i64 1, .int .i64 m, .slice Av l.length cv] 43) ⟨bb, fi * 4, none⟩ hbb).trans c0
        generalize hWe : w3.alloc (.cells #[.int .i64 1, .int .i64 m, .slice Av l.length cv] 43) = W1 at *
        have b1' := (unhide HPP7).hp.box1
        obtain ⟨bq, hAq, _, _, _, ⟨z0, z1, z2, z3⟩, hfz⟩ := (unhide HPP7).hp.at_ (unhide HXX)
        injection hAq with hAq
        injection hAq with hAq
        subst hAq
        have y0 := hfz (fi * 4)
        have y1 := hfz (fi * 4 + 1)
        have y2 := hfz (fi * 4 + 2)
        have y3 := hfz (fi * 4 + 3)
        change W1.cell? ⟨b7, 0, none⟩ = some (.int .i64 1) at d0
        change W1.cell? ⟨b7, 1, none⟩ = some (.int .i64 m) at d1
        change W1.cell? ⟨b7, 2, none⟩ = some (.slice Av l.length cv) at d2
        clear hfz c0 c1 c2 b1 c0' hWe
        go_big_region
        have hbbS : S bb := (unhide HPP7).hp.rowS bb rfl
        have hil : fi < cs'.length := (List.getElem?_eq_some_iff.1 (unhide HXX)).1
        have hput := (unhide HPP7).put (S' := S) (i := fi) (y := ⟨2, m, [], .slice none 0 0, 0⟩) rfl hil ((unhide HPP7).lk.set_ (unhide HXX) (unhide HX3) (show (2 : Int) ≠ 3 by decide)) (World.ownsRow_nil _ _ _ _) (fun b q => by cases q) (fun _ q => q) (unhide HPP7).hp.lt
        have HKD := Lib.hid (fun Pr hp => (hput.2 Pr hp).drew)
        have HPD := hide (hput.1.keep ((Keep.refl _ _).drew))
        have HRV : Hid (W1.ownsRow 0 3 1 (.slice Av l.length cv) l.length (intV l) ∧ ∀ b, (Value.slice Av l.length cv).ownBlock = some b → S b ∧ b ≠ bb) := Lib.hid ⟨(unhide HPP7).hp.refs _ _ (unhide HXX), fun b q => ⟨(unhide HPP7).hp.refS _ _ b (unhide HXX) q, fun e => own_own_ne ((unhide HPP7).hp.refs _ _ (unhide HXX)) (unhide HPP7).hp.row (by decide) b q (by rw [e]; rfl)⟩⟩
        dsimp only at HKD HPD
        generalize hWe : ((((W1.setCell ⟨bb, fi * 4, none⟩ (.int .i64 2)).setCell ⟨bb, fi * 4 + 1, none⟩ (.int .i64 m)).setCell ⟨bb, fi * 4 + 2, none⟩ (.slice none 0 0)).setCell ⟨bb, fi * 4 + 3, none⟩ (.int .i64 0)).drew = W2 at *
        have kb : b ≠ bb := fun e => hbS (by rw [e]; exact hbbS)
        have kb7 : b7 ≠ bb := fun e => hb7S (by rw [e]; exact hbbS)
        have hk2 := HKD.out (fun k => k ≠ bb) (fun q => q rfl)
        have L37 := hide ((unhide HK37).keep hk2 kb)
        have L7 := hide ((unhide HK7).keep hk2 kb7)
        have LKE := hide ((unhide HKE7).trans (HKD.out (Out S w) (fun q => q.2 hbbS)))
        have LRV : Hid (W2.ownsRow 0 3 1 (.slice Av l.length cv) l.length (intV l)) := Lib.hid (owns_keep HRV.out.1 hk2 (fun b q => (HRV.out.2 b q).2))
        have a0 := (unhide L37).cell 0
        have a1 := (unhide L37).cell 1
        have a2 := (unhide L37).cell 2
        have f0 := (unhide L37).frozen 0
        have f1 := (unhide L37).frozen 1
        have f2 := (unhide L37).frozen 2
        have d0 := (unhide L7).cell 0
        have d1 := (unhide L7).cell 1
        have d2 := (unhide L7).cell 2
        change W2.cell? ⟨b7, 0, none⟩ = some (.int .i64 1) at d0
        change W2.cell? ⟨b7, 1, none⟩ = some (.int .i64 m) at d1
        change W2.cell? ⟨b7, 2, none⟩ = some (.slice Av l.length cv) at d2
        clear hWe hk2 hput HKD HK37 HK7 HP9 b1' z0 z1 z2 z3 y0 y1 y2 y3
        go_wp2_with fail
        have K5 := (((unhide L37).set_ 0 (.int .i64 1)).set_ 1 (.int .i64 m)).set_ 2 (.slice Av l.length cv)
        have e0 := K5.cell 0
        have e1 := K5.cell 1
        have e2 := K5.cell 2
        refine bodyPost_ret (v := .tuple #[.agg #[.int .i64 1, .int .i64 m, .slice Av l.length cv], .int .i64 0]) ?_ rfl (by
          rw [HQ2.out]
          have hv9 : (Value.slice Av l.length cv).ownBlock ≠ some b := fun e => hbS ((HRV.out.2 b e).1)
          refine ⟨_, rfl, ⟨owns_set (owns_set (owns_set LRV.out hv9 _) hv9 _) hv9 _, fun b q => (HRV.out.2 b q).1⟩, ⟨_, _, n, c, rk, (unhide HPD).keep ((((Keep.refl S _).setCell (p := ⟨b, 0, none⟩) hbS _).setCell (p := ⟨b, 1, none⟩) hbS _).setCell (p := ⟨b, 2, none⟩) hbS _), cel_set (HSM.out.cel.trans HCM.out) fi ⟨2, m, [], .slice none 0 0, 0⟩⟩, ?_⟩
          exact (((unhide LKE).setCell (p := ⟨b, 0, none⟩) (fun q => absurd q.1 (Nat.not_lt.2 hbw)) _).setCell (p := ⟨b, 1, none⟩) (fun q => absurd q.1 (Nat.not_lt.2 hbw)) _).setCell (p := ⟨b, 2, none⟩) (fun q => absurd q.1 (Nat.not_lt.2 hbw)) _)
        simp [results, Try.f15, go_sem, e0, e1, e2]
      · have gk1 : (k == 1) = false := beq_eq_false_iff_ne.2 hk1
        have HQ2 : Hid (qr = (nilC, 20, M)) := Lib.hid (by rw [HQ.out, if_neg hk1, if_neg hk2])
        clear HQ
        go_wp2_with fail
        have K5 := (((unhide HK37).set_ 0 (.int .i64 0)).set_ 1 (.int .i64 0)).set_ 2 (.slice none 0 0)
        have e0 := K5.cell 0
        have e1 := K5.cell 1
        have e2 := K5.cell 2
        have hP9 := HP9.out (.int .i64 0) (.int .i64 0) (.slice none 0 0)
        refine bodyPost_ret (v := .tuple #[.agg #[.int .i64 0, .int .i64 0, .slice none 0 0], .int .i64 20]) ?_ rfl (by rw [HQ2.out]; exact ⟨_, rfl, ⟨World.ownsRow_nil _ _ _ _, fun b q => by cases q⟩, hP9.1, hP9.2⟩)
        simp [results, Try.f15, go_sem, e0, e1, e2]
end Go.Proofs.Ytcdapnhcgbkikaa
