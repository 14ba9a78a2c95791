/- Build. Conditions: at most 2^62 nodes and values, each of at most 2^48 bytes. -/
import Derived.Test.YtdifpemohdnolaaGreatPtU
namespace Go.Proofs.YtdifpemohdnolaaGreat
open Go.RowKit VM

theorem varsN_mono {p : List Cd} : ∀ {i j : Nat}, i ≤ j → varsN (p.take i) ≤ varsN (p.take j) := by
  intro i j h
  unfold varsN
  have e : p.take i = (p.take j).take i := by rw [List.take_take, Nat.min_eq_left h]
  rw [e]
  exact List.Sublist.length_le ((List.take_sublist _ _).filter _)
theorem bld_some : ∀ (d : Nat) {p : List Cd} {i j : Nat} {vs : List ByteArray}, pendL d p i = some j → varsN (p.take j) ≤ varsN (p.take i) + vs.length →
    ∃ v r, bld d p i vs = some (v, j, r) ∧ r.length + varsN (p.take j) = varsN (p.take i) + vs.length
  | 0, _, _, _, _, h, _ => by cases h
  | d + 1, p, i, j, vs, h, hv => by
    unfold pendL at h
    unfold bld
    cases hc : p[i]? with
    | none => rw [hc] at h; cases h
    | some c =>
      rw [hc] at h
      simp only at h ⊢
      have hst := varsN_take hc
      cases hp : permL c with
      | false => rw [hp, if_neg (by decide)] at h; cases h
      | true =>
        rw [hp, if_pos rfl] at h
        by_cases h30 : c.1 = 30
        · have hk : c.2.2.toNat = 0 := by
            have e : permL c = decide (c.2.1 = 0 ∧ c.2.2 = 0) := by unfold permL; rw [if_pos (Or.inl h30)]
            rw [hp] at e
            have := of_decide_eq_true e.symm
            omega
          rw [hk] at h
          cases h
          rw [if_pos h30] at hst ⊢
          cases vs with
          | nil => simp at hv; omega
          | cons x l => exact ⟨x, l, rfl, by simp at hv ⊢; omega⟩
        · rw [if_neg h30, Nat.add_zero] at hst
          rw [if_neg h30]
          have key : ∀ (K k i0 : Nat) (vs acc : List ByteArray), loopL (pendL d p) (badL p c) K k i0 = some j → varsN (p.take j) ≤ varsN (p.take i0) + vs.length → ∃ q, bLoop (bld d p) K i0 vs acc = some q ∧ q.2.1 = j ∧ q.2.2.length + varsN (p.take j) = varsN (p.take i0) + vs.length := by
            intro K
            induction K with
            | zero =>
              intro k i0 vs acc h1 h2
              cases h1
              exact ⟨_, rfl, rfl, by show vs.length + _ = _; omega⟩
            | succ K ih =>
              intro k i0 vs acc h1 h2
              unfold loopL at h1
              unfold bLoop
              cases hf : pendL d p i0 with
              | none => rw [hf] at h1; cases h1
              | some j1 =>
                rw [hf] at h1
                simp only at h1
                split at h1
                · cases h1
                · have hj := loopL_le (n := p.length) (fun a b h => pendL_lt d h) _ _ _ _ (pendL_lt d hf).2 h1
                  have hmo := varsN_mono (p := p) hj.1
                  obtain ⟨v1, r1, e1, e2⟩ := bld_some d (vs := vs) hf (by omega)
                  rw [e1]
                  obtain ⟨q, a1, a2, a3⟩ := ih _ _ r1 (acc ++ [v1]) h1 (by omega)
                  exact ⟨q, a1, a2, by omega⟩
          obtain ⟨q, a1, a2, a3⟩ := key _ _ _ vs [] h (by omega)
          rw [a1]
          exact ⟨joinR c q.1, q.2.2, by rw [← a2], by omega⟩
/-- what Build returns -/
def buildP (p : List Cd) (l : List ByteArray) : Option ByteArray :=
  if isPat p = true ∧ l.length = varsN p ∧ totB l ≤ 131072 then (match bld 64 p 0 l with
    | some (v, _, _) => if valB 32 v = true then some v else none
    | none => none) else none
theorem BS.start {p : List Cd} {l : List ByteArray} {A L : Option Addr} {n c m d : Nat} {w : World} (hn : n = p.length) (hA : InC w A (p.flatMap cdCells)) (hm : m = l.length) (hmd : m ≤ d) (hL : InC w L (l.map Value.string)) :
    BS w.heap.size w.heap.size p A n c (w.alloc (.cells #[.slice A n c, .slice L m d] 68)) l := by
  have hb : Below w.heap.size w (w.alloc (.cells #[.slice A n c, .slice L m d] 68)) := (Below.refl _ _).alloc (Nat.le_refl _) _
  have hc : ∀ (X : Option Addr) (xs : List Value), InC w X xs → OutC (w.alloc (.cells #[.slice A n c, .slice L m d] 68)) w.heap.size w.heap.size X xs := by
    intro X xs h
    rcases h with q | ⟨b, off, e, q1, q2⟩
    · exact .inl q
    · exact .inr ⟨b, off, e, ⟨q1, by simp, by omega⟩, fun i u hu => (hb.cell (p := ⟨b, off + i, none⟩) q1).trans (q2 i u hu)⟩
  exact ⟨⟨L, m, d, Blk.new w _ _, hm, hmd, hc _ _ hL⟩, hc _ _ hA, hn⟩
def BuildPost (w : World) (r : Option ByteArray) (e : Ending) (w' : World) : Prop := e = .returned (.tuple #[.string (r.getD ⟨#[]⟩), .bool r.isSome]) ∧ Below w.heap.size w w'
set_option linter.unusedSimpArgs false in
set_option maxRecDepth 100000 in
set_option maxHeartbeats 6400000 in
theorem buildP_any (p : List Cd) (l : List ByteArray) (A L : Option Addr) (n c m d : Nat) (w : World) (hn : n = p.length) (hn2 : n ≤ 4611686018427387904) (hA : InC w A (p.flatMap cdCells)) (hm : m = l.length) (hm2 : m ≤ 4611686018427387904) (hmd : m ≤ d) (hs : ∀ u ∈ l, u.size ≤ 281474976710656) (hL : InC w L (l.map Value.string)) :
    Calls Tryz.prog 15 #[.slice A n c, .slice L m d] w (BuildPost w (buildP p l)) := by
  have HC := Lib.hid (isPattern_any p A n c w hn hn2 hA)
  have HV := Lib.hid (fun w hA => vars_any p A n c w hn hn2 hA)
  have HT := Lib.hid (fun w (h : m ≤ 8192) hL => tooLong_any l L m d w hm h hs hL)
  have HA := hide hA
  have HL := hide hL
  have HN := Lib.hid hn
  have HM := Lib.hid hm
  have HMD := Lib.hid hmd
  have HSS := Lib.hid hs
  have HE : Hid (buildP p l = if isPat p = true ∧ l.length = varsN p ∧ totB l ≤ 131072 then (match bld 64 p 0 l with | some (v, _, _) => if valB 32 v = true then some v else none | none => none) else none) := Lib.hid rfl
  have HP : Hid (isPat p = true → p.length ≤ 8192 ∧ pendL 64 p 0 = some p.length) := Lib.hid (fun h => by
    unfold isPat at h
    rw [Bool.and_eq_true, decide_eq_true_eq, decide_eq_true_eq] at h
    exact h)
  have HVL : Hid (varsN p ≤ p.length) := Lib.hid (by have := varsN_le p p.length; rwa [List.take_length] at this)
  generalize buildP p l = r at *
  clear hA hn hm hmd hs hL
  cases hp : isPat p with
  | false =>
    rw [hp] at HC HE
    have HQ : Hid (r = none) := Lib.hid (by rw [HE.out]; exact if_neg fun q => by cases q.1)
    clear hp HE HP
    go_enter Tryz.func15, Tryz.ntmps15
    go_wp2_with fail
    refine HC.out.mono ?_
    rintro e w1 ⟨rfl, hb1⟩
    have HB1 := hide hb1
    clear hb1 HC
    go_wp2_with fail
    go_ret2
    exact ⟨by rw [HQ.out]; rfl, unhide HB1⟩
  | true =>
    rw [hp] at HC HE
    obtain ⟨hp1, hp2⟩ := HP.out hp
    have HP1 := Lib.hid hp1
    have HP2 := Lib.hid hp2
    clear HP hp hp1 hp2
    by_cases hlv : l.length = varsN p
    · have gl : ((m : Int) == ((varsN p : Nat) : Int)) = true := by rw [HM.out, hlv]; simp
      have glb : ((m : Int) != ((varsN p : Nat) : Int)) = false := by rw [HM.out, hlv]; simp
      have hm8 : m ≤ 8192 := by have := HM.out; have := HVL.out; have := HP1.out; omega
      have HLV := Lib.hid hlv
      have HT2 := Lib.hid (fun w hL => HT.out w hm8 hL)
      clear hlv HT
      generalize hvp : varsN p = vp at *
      cases htl : decide (131072 < totB l) with
      | true =>
        rw [htl] at HT2
        have HQ : Hid (r = none) := Lib.hid (by rw [HE.out]; exact if_neg fun q => by have := of_decide_eq_true htl; have := q.2.2; omega)
        clear htl HE
        go_enter Tryz.func15, Tryz.ntmps15
        go_wp2_with fail
        refine HC.out.mono ?_
        rintro e w1 ⟨rfl, hb1⟩
        have HB1 := hide hb1
        clear hb1 HC
        go_wp2_with fail
        refine (HV.out _ ((unhide HA).below (unhide HB1))).mono ?_
        rintro e w2 ⟨rfl, hb2⟩
        have HB2 := hide ((unhide HB1).trans (hb2.mono (unhide HB1).size))
        clear hb2 HV
        go_wp2_with fail
        refine (HT2.out _ ((unhide HL).below (unhide HB2))).mono ?_
        rintro e w3 ⟨rfl, hw3⟩
        obtain rfl : w2 = w3 := hw3
        go_wp2_with fail
        go_ret2
        exact ⟨by rw [HQ.out]; rfl, unhide HB2⟩
      | false =>
        rw [htl] at HT2
        have htb : totB l ≤ 131072 := by have := of_decide_eq_false htl; omega
        obtain ⟨v, rr, hbl, _⟩ := bld_some 64 (vs := l) HP2.out (by rw [List.take_length, hvp, HLV.out]; omega)
        have HQ : Hid (r = if valB 32 v = true then some v else none) := Lib.hid (by rw [HE.out, if_pos ⟨rfl, HLV.out, htb⟩, hbl])
        obtain ⟨_, hsv, _, _⟩ := bld_facts 64 HSS.out HP2.out hbl
        have HVV := Lib.hid (fun w => valid_any v hsv w)
        have HBLD := Lib.hid hbl
        clear htl HE hbl htb hsv
        obtain ⟨vb, hvb⟩ : ∃ vb, Hid (valB 32 v = vb) := ⟨_, Lib.hid rfl⟩
        rw [hvb.out] at HQ HVV
        clear hvb
        go_enter Tryz.func15, Tryz.ntmps15
        go_wp2_with fail
        refine HC.out.mono ?_
        rintro e w1 ⟨rfl, hb1⟩
        have HB1 := hide hb1
        clear hb1 HC
        go_wp2_with fail
        refine (HV.out _ ((unhide HA).below (unhide HB1))).mono ?_
        rintro e w2 ⟨rfl, hb2⟩
        have HB2 := hide ((unhide HB1).trans (hb2.mono (unhide HB1).size))
        clear hb2 HV
        go_wp2_with fail
        refine (HT2.out _ ((unhide HL).below (unhide HB2))).mono ?_
        rintro e w3 ⟨rfl, hw3⟩
        obtain rfl : w2 = w3 := hw3
        go_wp2_with fail
        have hS := BS.start (c := c) HN.out ((unhide HA).below (unhide HB2)) HM.out HMD.out ((unhide HL).below (unhide HB2))
        have HBC := hide (build_up 64 _ _ p A n c l 0 p.length v rr _ HP1.out (by have := HM.out; omega) HSS.out (by simp) HP2.out HBLD.out hS)
        have HB3 := hide ((unhide HB2).alloc (unhide HB2).size (.cells #[.slice A n c, .slice L m d] 68))
        clear hS
        refine (unhide HBC).mono ?_
        rintro e w4 ⟨rfl, _, hk4⟩
        have HB4 : Hid (Below w.heap.size w w4) := hide ((unhide HB3).trans (hk4.mono (fun k (hk : k < w.heap.size) => ⟨by have := (unhide HB3).size; omega, by have := (unhide HB2).size; omega⟩)).to_below)
        clear hk4 HBC
        dsimp only
        go_wp2_with fail
        refine (HVV.out _).mono ?_
        rintro e w5 ⟨rfl, hb5⟩
        have HB5 := hide ((unhide HB4).trans (hb5.mono (unhide HB4).size))
        clear hb5 HVV
        cases vb with
        | true =>
          go_wp2_with fail
          go_ret2
          exact ⟨by rw [HQ.out]; rfl, unhide HB5⟩
        | false =>
          go_wp2_with fail
          go_ret2
          exact ⟨by rw [HQ.out]; rfl, unhide HB5⟩
    · have gl : ((m : Int) == ((varsN p : Nat) : Int)) = false := beq_eq_false_iff_ne.2 (by have := HM.out; omega)
      have glb : ((m : Int) != ((varsN p : Nat) : Int)) = true := by simp; have := HM.out; omega
      have HQ : Hid (r = none) := Lib.hid (by rw [HE.out]; exact if_neg fun q => hlv q.2.1)
      clear hlv HE HT
      generalize varsN p = vp at *
      go_enter Tryz.func15, Tryz.ntmps15
      go_wp2_with fail
      refine HC.out.mono ?_
      rintro e w1 ⟨rfl, hb1⟩
      have HB1 := hide hb1
      clear hb1 HC
      go_wp2_with fail
      refine (HV.out _ ((unhide HA).below (unhide HB1))).mono ?_
      rintro e w2 ⟨rfl, hb2⟩
      have HB2 := hide ((unhide HB1).trans (hb2.mono (unhide HB1).size))
      clear hb2 HV
      go_wp2_with fail
      go_ret2
      exact ⟨by rw [HQ.out]; rfl, unhide HB2⟩

end Go.Proofs.YtdifpemohdnolaaGreat
