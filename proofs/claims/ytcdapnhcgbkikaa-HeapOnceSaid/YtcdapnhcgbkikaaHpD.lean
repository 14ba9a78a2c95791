/- The heap as a state; New, Size, Read. Conditions: cells have at most 2^43 references. -/
import Derived.Test.YtcdapnhcgbkikaaHpC
namespace Go.Proofs.Ytcdapnhcgbkikaa
open Go.RowKit

/-- the program's heap holds these cells, whose links are told by Fn -/
def PH (w : World) (S : Nat → Prop) (g : Nat) (most : Int) (M : List Cel) (Fn : Nat → Nat) : Prop :=
  ∃ (cs : List PC) (A : Option Addr) (n c : Nat) (rk : Nat → Nat), PL w S g most cs A n c Fn rk ∧ cs.map PC.cel = M
section
variable {w w' : World} {S S' : Nat → Prop} {g : Nat} {most : Int} {M : List Cel} {Fn : Nat → Nat}
theorem PH.keep (h : PH w S g most M Fn) (hk : Keep S w w') : PH w' S g most M Fn := by
  obtain ⟨cs, A, n, c, rk, h1, h2⟩ := h
  exact ⟨cs, A, n, c, rk, ⟨h1.hp.keep hk, h1.lk⟩, h2⟩
theorem PH.lt (h : PH w S g most M Fn) : ∀ k, S k → k < w.heap.size := by
  obtain ⟨cs, A, n, c, rk, h1, h2⟩ := h
  exact h1.hp.lt
theorem PH.below (h : PH w S g most M Fn) (hb : Below w.heap.size w w') : PH w' S g most M Fn := h.keep (Keep.below hb h.lt)
theorem PH.grow (h : PH w S g most M Fn) (h1 : ∀ k, S k → S' k) (h2 : ∀ k, S' k → k < w.heap.size) : PH w S' g most M Fn := by
  obtain ⟨cs, A, n, c, rk, h3, h4⟩ := h
  exact ⟨cs, A, n, c, rk, ⟨h3.hp.grow h1 h2, h3.lk⟩, h4⟩
theorem PH.sx (h : PH w' S g most M Fn) (hS : ∀ k, S k → k < w.heap.size) (hs : w.heap.size ≤ w'.heap.size) : PH w' (Sx S w w') g most M Fn := h.grow (fun _ q => .inl q) (Sx.lt hS hs)
end
structure WF (M : List Cel) : Prop where
  cnt : ∀ (i : Nat) (c : Cel), M[i]? = some c → c.2.2.length ≤ 4096
  in_ : ∀ (i : Nat) (c : Cel) (r : Int), M[i]? = some c → r ∈ c.2.2 → 0 ≤ r ∧ r < (M.length : Int)
def nilC : Cel := (0, 0, [])
def cellM (M : List Cel) (i : Nat) : Cel := (M[i]?).getD nilC
def readM (M : List Cel) (Fn : Nat → Nat) (r : Int) : Cel × Int × Int := if hasB M.length r = true then (cellM M (Fn r.toNat), (Fn r.toNat : Int), 0) else (nilC, 0, 21)
/-- what a search finds -/
theorem Lnk.found {cs : List PC} {Fn rk : Nat → Nat} (h : Lnk cs Fn rk) : ∀ (d i : Nat), rk i ≤ d → i < cs.length → Fn i < cs.length ∧ ∃ x, cs[Fn i]? = some x ∧ x.kind ≠ 3 := by
  intro d
  induction d with
  | zero =>
    intro i hd hi
    have hx := List.getElem?_eq_getElem hi
    by_cases hk : cs[i].kind = 3
    · obtain ⟨a, _, _, h3, _⟩ := h.at_ i _ hx hk
      omega
    · rw [h.self i _ hx hk]
      exact ⟨hi, _, hx, hk⟩
  | succ d ih =>
    intro i hd hi
    have hx := List.getElem?_eq_getElem hi
    by_cases hk : cs[i].kind = 3
    · obtain ⟨a, _, h2, h3, h4⟩ := h.at_ i _ hx hk
      rw [← h4]
      exact ih a (by omega) h2
    · rw [h.self i _ hx hk]
      exact ⟨hi, _, hx, hk⟩
theorem cel_at {cs : List PC} {M : List Cel} (h : cs.map PC.cel = M) {i : Nat} {x : PC} (hx : cs[i]? = some x) : M[i]? = some x.cel := by
  rw [← h, List.getElem?_map, hx]; rfl
theorem cel_len {cs : List PC} {M : List Cel} (h : cs.map PC.cel = M) : cs.length = M.length := by rw [← h, List.length_map]
theorem has_nat {n : Nat} {r : Int} (h : hasB n r = true) : ∃ i : Nat, r = (i : Int) ∧ i < n := by
  unfold hasB at h
  rw [Bool.and_eq_true, decide_eq_true_eq, decide_eq_true_eq] at h
  exact ⟨r.toNat, by omega, by omega⟩
def NewPost (most : Int) (w : World) (e : Ending) (w' : World) : Prop :=
    (1 ≤ most ∧ most ≤ 65536 → e = .returned (.tuple #[.pointer (some ⟨w.heap.size, 0, none⟩), .int .i64 0]) ∧ w' = w.alloc (.cells #[.int .i64 most, .slice none 0 0] 66)) ∧
    (¬ (1 ≤ most ∧ most ≤ 65536) → e = .returned (.tuple #[.pointer none, .int .i64 1]) ∧ w' = w)
theorem new_any (most : Int) (w : World) : Calls Try.prog 13 #[.int .i64 most] w (NewPost most w) := by
  by_cases h1 : most < 1
  · have g1 : decide (most < 1) = true := decide_eq_true h1
    have HN := Lib.hid h1
    clear h1
    go_enter Try.func13, Try.ntmps13
    go_wp2
    go_ret2
    exact ⟨fun q => by have := HN.out; omega, fun _ => ⟨rfl, rfl⟩⟩
  · have g1 : decide (most < 1) = false := decide_eq_false h1
    have HN := Lib.hid h1
    clear h1
    by_cases h2 : 65536 < most
    · have g2 : decide (65536 < most) = true := decide_eq_true h2
      have HN2 := Lib.hid h2
      clear h2
      go_enter Try.func13, Try.ntmps13
      go_wp2
      go_ret2
      exact ⟨fun q => by have := HN2.out; omega, fun _ => ⟨rfl, rfl⟩⟩
    · have g2 : decide (65536 < most) = false := decide_eq_false h2
      have HN2 := Lib.hid h2
      clear h2
      go_enter Try.func13, Try.ntmps13
      go_wp2
      go_ret2
      exact ⟨fun _ => ⟨rfl, rfl⟩, fun q => by have := HN.out; have := HN2.out; omega⟩
theorem PH.made (w : World) (most : Int) : PH (w.alloc (.cells #[.int .i64 most, .slice none 0 0] 66)) (fun k => k = w.heap.size) w.heap.size most [] id :=
  ⟨[], none, 0, 0, id, ⟨⟨Blk.new w _ _, World.ownsRow_nil _ _ _ _, fun i x h => by simp at h, fun i j x y b h => by simp at h, rfl, fun b h => by simp [Value.ownBlock] at h, fun i x b h => by simp at h, fun k hk => by simp [hk]⟩,
    ⟨fun i x h => by simp at h, fun i x h => by simp at h, fun _ _ => rfl⟩⟩, rfl⟩
section
variable {w w' : World} {S S' : Nat → Prop} {g : Nat} {most : Int} {M : List Cel} {Fn : Nat → Nat}
theorem size_any (h : PH w S g most M Fn) : Calls Try.prog 18 #[.pointer (some ⟨g, 0, none⟩)] w fun e w' => e = .returned (.int .i64 (M.length : Int)) ∧ w' = w := by
  obtain ⟨cs, A, n, c, rk, h1, h2⟩ := h
  have b1 := h1.hp.box1
  have hn : Hid (n = M.length) := Lib.hid (by rw [h1.hp.len cellsP_len (by decide), cel_len h2])
  clear h1 h2
  go_enter Try.func18, Try.ntmps18
  go_wp2
  go_ret
  exact ⟨by rw [hn.out]; rfl, rfl⟩
/-- a cell and more that a call returns -/
def ReadPost (w : World) (S : Nat → Prop) (g : Nat) (most : Int) (M : List Cel) (Fn : Nat → Nat) (q : Cel × Int × Int) (e : Ending) (w' : World) : Prop :=
  ∃ v, e = .returned (.tuple #[.agg #[.int .i64 q.1.1, .int .i64 q.1.2.1, v], .int .i64 q.2.1, .int .i64 q.2.2]) ∧ w'.ownsRow w.heap.size 3 1 v q.1.2.2.length (intV q.1.2.2) ∧ PH w' S g most M Fn ∧ Keep (Out S w) w w'
set_option maxRecDepth 100000 in
set_option maxHeartbeats 6400000 in
theorem read_any (h : PH w S g most M Fn) (hW : WF M) (r : Int) : Calls Try.prog 17 #[.pointer (some ⟨g, 0, none⟩), .int .i64 r] w (ReadPost w S g most M Fn (readM M Fn r)) := by
  have HH := hide h
  obtain ⟨cs, A, n, c, rk, h1, h2⟩ := h
  have hn : n = M.length := by rw [h1.hp.len cellsP_len (by decide), cel_len h2]
  have hn2 := h1.hp.len cellsP_len (by decide)
  have H1 := hide (h1.keep_alloc (.cells #[.int .i64 0, .int .i64 0, .slice none 0 0] 43))
  have HC := hide (has_any (unhide H1).hp r)
  have HB1 := hide ((Below.refl w.heap.size w).alloc (Nat.le_refl _) (.cells #[.int .i64 0, .int .i64 0, .slice none 0 0] 43))
  have HK1 := hide (Blk.new w 43 #[.int .i64 0, .int .i64 0, .slice none 0 0])
  obtain ⟨b, hb⟩ : ∃ b, Hid (b = w.heap.size) := ⟨_, Lib.hid rfl⟩
  have hbw : w.heap.size ≤ b := Nat.le_of_eq hb.out.symm
  have hbS : ¬ S b := fun q => by have := h1.hp.lt b q; omega
  unfold readM
  rw [← hn]
  have HSL := hide h1.hp.lt
  have HWF := hide hW
  clear h1
  rw [← hb.out] at HK1
  cases hbb : hasB n r with
  | false =>
    rw [hbb] at HC
    rw [if_neg (by decide)]
    clear h2 hbb H1 hn hn2
    go_enter Try.func17, Try.ntmps17
    go_wp2_with fail
    simp only [← hb.out]
    generalize w.alloc (.cells #[.int .i64 0, .int .i64 0, .slice none 0 0] 43) = w1 at *
    refine (unhide HC).mono ?_
    rintro e w2 ⟨rfl, hw2⟩
    subst hw2
    have a0 := (unhide HK1).cell 0
    have a1 := (unhide HK1).cell 1
    have a2 := (unhide HK1).cell 2
    have f0 := (unhide HK1).frozen 0
    have f1 := (unhide HK1).frozen 1
    have f2 := (unhide HK1).frozen 2
    change w2.cell? ⟨b, 0, none⟩ = some (.int .i64 0) at a0
    change w2.cell? ⟨b, 1, none⟩ = some (.int .i64 0) at a1
    change w2.cell? ⟨b, 2, none⟩ = some (.slice none 0 0) at a2
    go_wp2_with fail
    have K3 := (((unhide HK1).set_ 0 (.int .i64 0)).set_ 1 (.int .i64 0)).set_ 2 (.slice none 0 0)
    have e0 := K3.cell 0
    have e1 := K3.cell 1
    have e2 := K3.cell 2
    have HB3 := (((unhide HB1).setCell (p := ⟨b, 0, none⟩) hbw (.int .i64 0)).setCell (p := ⟨b, 1, none⟩) hbw (.int .i64 0)).setCell (p := ⟨b, 2, none⟩) hbw (.slice none 0 0)
    refine bodyPost_ret (v := .tuple #[.agg #[.int .i64 0, .int .i64 0, .slice none 0 0], .int .i64 0, .int .i64 21]) ?_ rfl ⟨_, rfl, World.ownsRow_nil _ _ _ _, (unhide HH).below HB3, keep_below HB3⟩
    simp [results, Try.f17, go_sem, e0, e1, e2]
  | true =>
    obtain ⟨i, hri, hin⟩ := has_nat hbb
    subst hri
    rw [hbb] at HC
    rw [if_pos rfl, Int.toNat_natCast]
    have HF := hide (find_any (unhide H1) hin)
    have HX : Hid (∀ (cs' : List PC), Same cs cs' → Lnk cs' Fn rk → ∃ x : PC, cs'[Fn i]? = some x ∧ x.cel = cellM M (Fn i) ∧ x.refs.length ≤ 4096) := Lib.hid (fun cs' hs hl => by
      obtain ⟨_, x, hx, _⟩ := hl.found _ i (Nat.le_refl _) (by rw [hs.len]; omega)
      have q := cel_at (hs.cel.trans h2) hx
      refine ⟨x, hx, by unfold cellM; rw [q]; rfl, hW.cnt _ _ q⟩)
    have HCM := Lib.hid h2
    have HNN := Lib.hid hn2
    clear h2 hbb hn hn2 hW
    go_enter Try.func17, Try.ntmps17
    go_wp2_with fail
    simp only [← hb.out]
    generalize w.alloc (.cells #[.int .i64 0, .int .i64 0, .slice none 0 0] 43) = w1 at *
    refine (unhide HC).mono ?_
    rintro e w2 ⟨rfl, hw2⟩
    subst hw2
    go_wp2_with fail
    refine (unhide HF).mono ?_
    rintro e w3 ⟨cs', rfl, hP, hs, hk⟩
    obtain ⟨x, hx, hxc, hx4⟩ := HX.out cs' hs hP.lk
    have b1 := hP.hp.box1
    obtain ⟨bb, hA, hbb, hnc, hfn, ⟨c0, c1, c2, c3⟩, -⟩ := hP.hp.at_ hx
    subst hA
    have HREF := hide (hP.hp.refs _ x hx)
    have HP3 := hide hP
    have HXC := Lib.hid hxc
    have HSM := Lib.hid hs
    have hkb := hk.frozen (b := b) ⟨(unhide HK1).lt, hbS⟩
    have hkc := hk.block b ⟨(unhide HK1).lt, hbS⟩
    have HK3 := hide ((unhide HK1).keep hk ⟨(unhide HK1).lt, hbS⟩)
    have HKE := hide hk
    obtain ⟨fi, hfi⟩ : ∃ z, Hid (z = Fn i) := ⟨_, Lib.hid rfl⟩
    rw [← hfi.out] at c0 c1 c2 c3 hfn
    rw [← hfi.out]
    have g0 : (0 : Int) ≤ (fi : Int) := by omega
    have g1 : (fi : Int) < (n : Int) := by omega
    obtain ⟨k, m, l, v, ah⟩ := x
    dsimp only at c0 c1 c2 c3 HREF hx4
    obtain ⟨Av, cv, hv⟩ := owns_form (unhide HREF)
    subst hv
    clear hP hs hk hxc hx hkb hkc HX HF HC H1 c3
    go_wp2_with fail
    refine (copied_any k m l Av l.length cv w3 rfl (by omega) (InC.own (unhide HREF))).mono ?_
    rintro e w4 ⟨v4, rfl, ho, hb4⟩
    have HO := hide ho
    have HB4 := hide hb4
    have HK4 := hide ((unhide HK3).below hb4 (unhide HK3).lt)
    obtain ⟨A4, c4, hv4⟩ := owns_form ho
    subst hv4
    have a0 := (unhide HK4).cell 0
    have a1 := (unhide HK4).cell 1
    have a2 := (unhide HK4).cell 2
    have f0 := (unhide HK4).frozen 0
    have f1 := (unhide HK4).frozen 1
    have f2 := (unhide HK4).frozen 2
    change w4.cell? ⟨b, 0, none⟩ = some (.int .i64 0) at a0
    change w4.cell? ⟨b, 1, none⟩ = some (.int .i64 0) at a1
    change w4.cell? ⟨b, 2, none⟩ = some (.slice none 0 0) at a2
    clear ho hb4 c0 c1 c2 b1
    go_wp2_with fail
    have K5 := (((unhide HK4).set_ 0 (.int .i64 k)).set_ 1 (.int .i64 m)).set_ 2 (.slice A4 l.length c4)
    have e0 := K5.cell 0
    have e1 := K5.cell 1
    have e2 := K5.cell 2
    have hne : (Value.slice A4 l.length c4).ownBlock ≠ some b := fun e => by have := ((unhide HO).lt b e).1; have := (unhide HK3).lt; omega
    have hk45 : ∀ (Pr : Nat → Prop), ¬ Pr b → Keep Pr w4 (((w4.setCell ⟨b, 0, none⟩ (.int .i64 k)).setCell ⟨b, 1, none⟩ (.int .i64 m)).setCell ⟨b, 2, none⟩ (.slice A4 l.length c4)) := fun Pr hp => (((Keep.refl Pr w4).setCell (p := ⟨b, 0, none⟩) hp _).setCell (p := ⟨b, 1, none⟩) hp _).setCell (p := ⟨b, 2, none⟩) hp _
    have hs23 := (unhide HKE).size
    have hs1 := (unhide HB1).size
    have hE : cellM M (Fn i) = (k, m, l) := HXC.out.symm
    refine bodyPost_ret (v := .tuple #[.agg #[.int .i64 k, .int .i64 m, .slice A4 l.length c4], .int .i64 (fi : Int), .int .i64 0]) ?_ rfl ⟨_, by rw [hE, ← hfi.out], ?_, ?_, ?_⟩
    · simp [results, Try.f17, go_sem, e0, e1, e2]
    · rw [hE]
      exact owns_set (owns_set (owns_set (owns_base (unhide HO) (by omega)) hne _) hne _) hne _
    · exact ⟨cs', _, n, c, rk, (((unhide HP3).below (unhide HB4)).keep (hk45 S hbS)), HSM.out.cel.trans HCM.out⟩
    · have k1 : Keep (Out S w) w w2 := keep_below (unhide HB1)
      have k2 := keep_trans k1 ((unhide HKE))
      have k3 := keep_trans k2 (keep_below (S := S) (unhide HB4))
      exact k3.trans (hk45 _ (fun q => by have := q.1; omega))
end
end Go.Proofs.Ytcdapnhcgbkikaa
