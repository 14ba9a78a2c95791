/- Update. Conditions: at most 2^43 cells. -/
import Derived.Test.YtcdapnhcgbkikaaHpE
namespace Go.Proofs.Ytcdapnhcgbkikaa
open Go.RowKit

def updF (Fn : Nat → Nat) (r tt : Nat) : Nat → Nat := fun i => if Fn i = r then Fn tt else Fn i
def updateM (M : List Cel) (Fn : Nat → Nat) (r tt : Int) : Int × List Cel × (Nat → Nat) :=
  if (hasB M.length r && hasB M.length tt) = true then
    if (cellM M r.toNat).1 = 2 then
      if Fn tt.toNat = r.toNat then (14, M, Fn) else (0, M.set r.toNat (3, (cellM M r.toNat).2.1, [tt]), updF Fn r.toNat tt.toNat)
    else (20, M, Fn)
  else (21, M, Fn)
def UpdatePost (w : World) (S : Nat → Prop) (g : Nat) (most : Int) (q : Int × List Cel × (Nat → Nat)) (e : Ending) (w' : World) : Prop :=
  e = .returned (.int .i64 q.1) ∧ PH w' (Sx S w w') g most q.2.1 q.2.2 ∧ Keep (Out S w) w w'
theorem Lnk.upd {cs : List PC} {Fn rk : Nat → Nat} (h : Lnk cs Fn rk) {r tt : Nat} {x : PC} (hr : cs[r]? = some x) (hx : x.kind ≠ 3) (ht : tt < cs.length) (hne : Fn tt ≠ r) (m : Int) (l : List Int) (v : Value) :
    Lnk (cs.set r ⟨3, m, l, v, (tt : Int)⟩) (updF Fn r tt) (fun i => if Fn i = r then rk i + rk tt + 1 else rk i) := by
  have hrl := (List.getElem?_eq_some_iff.1 hr).1
  have hrr : Fn r = r := h.self r x hr hx
  have hs : ∀ (j : Nat) (z : PC), (cs.set r ⟨3, m, l, v, (tt : Int)⟩)[j]? = some z → (j ≠ r ∧ cs[j]? = some z) ∨ (j = r ∧ z = ⟨3, m, l, v, (tt : Int)⟩) := by
    intro j z hz
    by_cases hj : r = j
    · subst hj
      rw [set_self_at hr] at hz
      exact .inr ⟨rfl, (Option.some.inj hz).symm⟩
    · rw [List.getElem?_set_ne hj] at hz
      exact .inl ⟨fun q => hj q.symm, hz⟩
  refine ⟨fun j z hz hk => ?_, fun j z hz hk => ?_, fun j hj => ?_⟩
  · rw [List.length_set]
    rcases hs j z hz with ⟨q1, q2⟩ | ⟨q1, q2⟩
    · obtain ⟨a, h1, h2, h3, h4⟩ := h.at_ j z q2 hk
      refine ⟨a, h1, h2, ?_, ?_⟩
      · rw [h4]; split <;> omega
      · unfold updF; rw [h4]
    · subst q1 q2
      refine ⟨tt, rfl, ht, ?_, ?_⟩
      · show (if Fn tt = j then _ else _) < (if Fn j = j then _ else _)
        rw [if_neg hne, if_pos hrr]; omega
      · show (if Fn tt = j then _ else _) = (if Fn j = j then _ else _)
        rw [if_neg hne, if_pos hrr]
  · rcases hs j z hz with ⟨q1, q2⟩ | ⟨q1, q2⟩
    · have e := h.self j z q2 hk
      unfold updF
      rw [e, if_neg q1]
    · subst q2; exact absurd rfl hk
  · have e := h.out j (by simpa using hj)
    unfold updF
    rw [e, if_neg (by simp at hj; omega)]
theorem alloc_set (w : World) (o : Obj) (p : Addr) (u : Value) (h : p.block < w.heap.size) : (w.setCell p u).alloc o = (w.alloc o).setCell p u := by
  simp only [World.setCell, World.alloc]
  congr 1
  apply Array.ext_getElem?
  intro i
  simp only [Array.getElem?_push, Array.getElem?_modify, Array.size_modify]
  by_cases hi : i = w.heap.size
  · subst hi
    have : ¬ p.block = w.heap.size := by omega
    simp [this]
  · simp [hi]
set_option maxRecDepth 100000 in
set_option maxHeartbeats 6400000 in
theorem update_any {w : World} {S : Nat → Prop} {g : Nat} {most : Int} {M : List Cel} {Fn : Nat → Nat} (h : PH w S g most M Fn) (r tt : Int) :
    Calls Try.prog 16 #[.pointer (some ⟨g, 0, none⟩), .int .i64 r, .int .i64 tt] w (UpdatePost w S g most (updateM M Fn r tt)) := by
  have HH := hide h
  have HSX := hide (h.sx (w := w) h.lt (Nat.le_refl _))
  obtain ⟨cs, A, n, c, rk, h1, h2⟩ := h
  have hn : n = M.length := by rw [h1.hp.len cellsP_len (by decide), cel_len h2]
  have hn2 := h1.hp.len cellsP_len (by decide)
  have HC1 := hide (has_any h1.hp r)
  have HC2 := hide (has_any h1.hp tt)
  obtain ⟨qr, hqr⟩ : ∃ q, Hid (q = updateM M Fn r tt) := ⟨_, Lib.hid rfl⟩
  rw [← hqr.out]
  have HP := hide h1
  have HK := hide (Keep.refl (Out S w) w)
  cases hbr : hasB n r with
  | false =>
    rw [hbr] at HC1
    have HQ : Hid (qr = (21, M, Fn)) := Lib.hid (by rw [hqr.out]; unfold updateM; rw [← hn, hbr, Bool.false_and, if_neg (by decide)])
    clear h1 h2 hbr hn hn2 hqr
    go_enter Try.func16, Try.ntmps16
    go_wp2_with fail
    refine (unhide HC1).mono ?_
    rintro e w2 ⟨rfl, hw2⟩
    subst hw2
    go_wp2_with fail
    go_ret
    rw [HQ.out]
    exact ⟨rfl, unhide HSX, unhide HK⟩
  | true =>
    rw [hbr] at HC1
    cases hbt : hasB n tt with
    | false =>
      rw [hbt] at HC2
      have HQ : Hid (qr = (21, M, Fn)) := Lib.hid (by rw [hqr.out]; unfold updateM; rw [← hn, hbr, hbt, Bool.true_and, if_neg (by decide)])
      clear h1 h2 hbr hbt hn hn2 hqr
      go_enter Try.func16, Try.ntmps16
      go_wp2_with fail
      refine (unhide HC1).mono ?_
      rintro e w2 ⟨rfl, hw2⟩
      subst hw2
      go_wp2_with fail
      refine (unhide HC2).mono ?_
      rintro e w3 ⟨rfl, hw3⟩
      subst hw3
      go_wp2_with fail
      go_ret
      rw [HQ.out]
      exact ⟨rfl, unhide HSX, unhide HK⟩
    | true =>
      rw [hbt] at HC2
      obtain ⟨i, hri, hin⟩ := has_nat hbr
      subst hri
      obtain ⟨j, htj, hjn⟩ := has_nat hbt
      subst htj
      have HQ : Hid (qr = if (cellM M i).1 = 2 then if Fn j = i then (14, M, Fn) else (0, M.set i (3, (cellM M i).2.1, [(j : Int)]), updF Fn i j) else (20, M, Fn)) := Lib.hid (by rw [hqr.out]; unfold updateM; rw [← hn, hbr, hbt, Bool.true_and, if_pos rfl]; simp only [Int.toNat_natCast])
      obtain ⟨x, hx⟩ : ∃ x, cs[i]? = some x := ⟨_, List.getElem?_eq_getElem (by omega)⟩
      have hxc : cellM M i = x.cel := by unfold cellM; rw [cel_at h2 hx]; rfl
      rw [hxc] at HQ
      have HL := hide (isHole_any h1.hp hx)
      have HXX := hide hx
      have HCM := Lib.hid h2
      have HNN := Lib.hid hn2
      have HF := hide (find_any h1 hjn)
      by_cases hk : x.kind = 2
      · have HL' : Hid (Calls Try.prog 42 #[.pointer (some ⟨g, 0, none⟩), .int .i64 i] w fun e w' => e = .returned (.bool true) ∧ w' = w) := by
          have : (x.kind == 2) = true := by rw [hk]; rfl
          rw [this] at HL; exact HL
        have HKD := hide hk
        rw [show x.cel.1 = 2 from hk, if_pos rfl] at HQ
        clear h1 h2 hbr hbt hn hn2 hqr hx hxc hk HL
        by_cases hfj : Fn j = i
        · have HQ2 : Hid (qr = (14, M, Fn)) := Lib.hid (by rw [HQ.out, if_pos hfj])
          clear HQ
          have geq : (((Fn j : Nat) : Int) == (i : Int)) = true := by rw [hfj]; simp
          have HFJ := hide hfj
          clear hfj
          go_enter Try.func16, Try.ntmps16
          go_wp2_with fail
          refine (unhide HC1).mono ?_
          rintro e w2 ⟨rfl, hw2⟩
          subst hw2
          go_wp2_with fail
          refine (unhide HC2).mono ?_
          rintro e w3 ⟨rfl, hw3⟩
          subst hw3
          go_wp2_with fail
          refine (unhide HL').mono ?_
          rintro e w4 ⟨rfl, hw4⟩
          subst hw4
          go_wp2_with fail
          refine (unhide HF).mono ?_
          rintro e w5 ⟨cs', rfl, hP, hs, hkk⟩
          have HP5 := hide hP
          have HS5 := Lib.hid hs
          have HK5 := hide hkk
          clear hP hs hkk
          go_wp2_with fail
          go_ret
          rw [HQ2.out]
          exact ⟨rfl, (show PH _ S g most M Fn from ⟨cs', A, n, c, rk, unhide HP5, HS5.out.cel.trans HCM.out⟩).sx (unhide HH).lt (unhide HK5).size, unhide HK5⟩
        · have HQ2 := Lib.hid (HQ.out.trans (if_neg hfj))
          clear HQ
          have geq : (((Fn j : Nat) : Int) == (i : Int)) = false := beq_eq_false_iff_ne.2 (by omega)
          have HFJ := hide hfj
          clear hfj
          go_enter Try.func16, Try.ntmps16
          go_wp2_with fail
          refine (unhide HC1).mono ?_
          rintro e w2 ⟨rfl, hw2⟩
          subst hw2
          go_wp2_with fail
          refine (unhide HC2).mono ?_
          rintro e w3 ⟨rfl, hw3⟩
          subst hw3
          go_wp2_with fail
          refine (unhide HL').mono ?_
          rintro e w4 ⟨rfl, hw4⟩
          subst hw4
          go_wp2_with fail
          refine (unhide HF).mono ?_
          rintro e w5 ⟨cs', rfl, hP, hs, hkk⟩
          obtain ⟨y, hy, hy1, hy2, hy3, hy4⟩ := hs.symm.at_ (unhide HXX)
          have HP5 := hide hP
          have HS5 := Lib.hid hs
          have HK5 := hide hkk
          have HY := hide hy
          have HY1 := hide hy1
          have HY2 := hide hy2
          have b1 := hP.hp.box1
          obtain ⟨bb, hA, hbb, hnc, hfn, ⟨c0, c1, c2, c3⟩, hfz⟩ := hP.hp.at_ hy
          subst hA
          have y0 := hfz (i * 4)
          have y1 := hfz (i * 4 + 1)
          have y2 := hfz (i * 4 + 2)
          have y3 := hfz (i * 4 + 3)
          have hgl := hP.hp.gS
          obtain ⟨ky, my, ly, vy, ay⟩ := y
          dsimp only at c0 c1 c2 c3
          have g0 : (0 : Int) ≤ (i : Int) := by omega
          have g1 : (i : Int) < (n : Int) := by omega
          clear hP hs hkk hy hy1 hy2 hy3 hy4 hfz
          go_wp2_with fail
          go_big_region
          have hP5 := unhide HP5
          have hbbS : S bb := hP5.hp.rowS bb rfl
          have hil : i < cs'.length := (List.getElem?_eq_some_iff.1 (unhide HY)).1
          have hjl : j < cs'.length := by rw [HS5.out.len, ← HNN.out]; exact hjn
          have hPA := hP5.keep_alloc (.cells #[.int .i64 (j : Int)] 3)
          have hlk := hP5.lk.upd (unhide HY) (show ky ≠ 3 by have := unhide HY1; have := unhide HKD; omega) hjl HFJ.out my [(j : Int)] (.slice (some ⟨w5.heap.size, 0, none⟩) 1 1)
          have hput := hPA.put (S' := fun k => S k ∨ k = w5.heap.size) (i := i) (y := ⟨3, my, [(j : Int)], .slice (some ⟨w5.heap.size, 0, none⟩) 1 1, (j : Int)⟩) rfl hil hlk (World.ownsRow_lit w5 #[.int .i64 (j : Int)] 1 (Nat.zero_le _) (by unfold maxLen; omega) rfl)
            (fun b q => by
              injection q with q
              subst q
              exact ⟨.inr rfl, fun j' x' _ hx' he => by have := hP5.hp.lt _ (hP5.hp.refS j' x' _ hx' he); simp at this⟩) (fun _ q => .inl q) (fun k q => by
              simp only [World.size_alloc]
              rcases q with q | q
              · have := hP5.hp.lt k q; omega
              · omega)
          have e1 : ∀ (W : World) (p : Addr) (u : Value), W.heap.size = w5.heap.size → p.block = bb → (W.setCell p u).alloc (.cells #[.int .i64 (j : Int)] 3) = (W.alloc (.cells #[.int .i64 (j : Int)] 3)).setCell p u := fun W p u h1 h2 => alloc_set W _ p u (by rw [h1, h2]; exact hbb)
          rw [e1 _ _ _ (by simp [World.setCell]) rfl, e1 _ _ _ (by simp [World.setCell]) rfl, e1 _ _ _ (by simp [World.setCell]) rfl, e1 _ _ _ rfl rfl]
          have HPD := hide (hput.1.keep ((Keep.refl _ _).drew))
          have HKD2 := hide (((unhide HK5).trans ((keep_below ((Below.refl _ _).alloc (Nat.le_refl _) _) : Keep (Out S w5) w5 (w5.alloc (.cells #[.int .i64 (j : Int)] 3))).mono (fun k q => (q.same (unhide HK5))))).trans ((hput.2 (Out S w4) (fun q => q.2 hbbS)).drew))
          dsimp only at HPD HKD2
          have HSZ := hide (unhide HK5).size
          have HCM5 := hide (cel_set (HS5.out.cel.trans HCM.out) i ⟨3, my, [(j : Int)], .slice (some ⟨w5.heap.size, 0, none⟩) 1 1, (j : Int)⟩)
          have HE : Hid (qr = (0, M.set i (3, my, [(j : Int)]), updF Fn i j)) := Lib.hid (by rw [HQ2.out, show x.cel.2.1 = my from HY2.out.symm])
          have hs5 : w5.heap.size < (((((w5.alloc (.cells #[.int .i64 (j : Int)] 3)).setCell ⟨bb, i * 4, none⟩ (.int .i64 3)).setCell ⟨bb, i * 4 + 1, none⟩ (.int .i64 my)).setCell ⟨bb, i * 4 + 2, none⟩ (.slice (some ⟨w5.heap.size, 0, none⟩) 1 1)).setCell ⟨bb, i * 4 + 3, none⟩ (.int .i64 (j : Int))).drew.heap.size := by
            have q := (unhide HPD).hp.lt _ (.inr rfl)
            exact q
          have HS5L := hide hs5
          generalize (((((w5.alloc (.cells #[.int .i64 (j : Int)] 3)).setCell ⟨bb, i * 4, none⟩ (.int .i64 3)).setCell ⟨bb, i * 4 + 1, none⟩ (.int .i64 my)).setCell ⟨bb, i * 4 + 2, none⟩ (.slice (some ⟨w5.heap.size, 0, none⟩) 1 1)).setCell ⟨bb, i * 4 + 3, none⟩ (.int .i64 (j : Int))).drew = W at *
          clear hput e1 hPA hlk hs5 hP5
          go_wp2_with fail
          go_ret
          rw [HE.out]
          exact ⟨rfl, (show PH W (fun k => S k ∨ k = w5.heap.size) g most _ _ from ⟨_, _, n, c, _, unhide HPD, unhide HCM5⟩).grow (fun k q => by
            rcases q with q | q
            · exact .inl q
            · exact .inr ⟨by have := unhide HSZ; omega, by have := unhide HS5L; omega⟩) (Sx.lt (unhide HH).lt (unhide HKD2).size), unhide HKD2⟩
      · have HL' : Hid (Calls Try.prog 42 #[.pointer (some ⟨g, 0, none⟩), .int .i64 i] w fun e w' => e = .returned (.bool false) ∧ w' = w) := by
          have : (x.kind == 2) = false := beq_eq_false_iff_ne.2 hk
          rw [this] at HL; exact HL
        have HQ2 : Hid (qr = (20, M, Fn)) := Lib.hid (by rw [HQ.out, if_neg (show ¬ x.cel.1 = 2 from hk)])
        clear h1 h2 hbr hbt hn hn2 hqr hx hxc hk HL HQ
        go_enter Try.func16, Try.ntmps16
        go_wp2_with fail
        refine (unhide HC1).mono ?_
        rintro e w2 ⟨rfl, hw2⟩
        subst hw2
        go_wp2_with fail
        refine (unhide HC2).mono ?_
        rintro e w3 ⟨rfl, hw3⟩
        subst hw3
        go_wp2_with fail
        refine (unhide HL').mono ?_
        rintro e w4 ⟨rfl, hw4⟩
        subst hw4
        go_wp2_with fail
        go_ret
        rw [HQ2.out]
        exact ⟨rfl, unhide HSX, unhide HK⟩
end Go.Proofs.Ytcdapnhcgbkikaa
