/- LayoutRemoves: what Insert inserts is removed by Remove, and is balanced. Conditions: a slice of numbers has a length; strconv.ErrRange holds an interface value. -/
import Derived.Test.YtebfnlahiodefaaDoorLayT2
import Derived.Test.YtebfnlahiodefaaDoorLayB1
namespace Go.Proofs.YtebfnlahiodefaaDoor
open Go.RowKit M

def RRel (w : World) (v : Value) (wx : World) : Prop := ∃ (A : Option Addr) (c : Nat) (ts : List Tok), v = .slice A ts.length c ∧ ts.length ≤ 16384 ∧ Hid (InToks wx A ts) ∧ Hid (∀ t ∈ ts, t.1.str.length ≤ 140737488355328) ∧ Hid (Below w.heap.size w wx)

set_option maxRecDepth 100000 in
set_option maxHeartbeats 6400000 in
theorem layoutRemoves_any (w : World) (A : Option Addr) (n c : Nat) (made : Bool) (hA : InInts w A n) (hn : n ≤ maxLen) (hr : RangeVar w) :
    Calls Tryd.prog 8 #[.slice A n c, .bool made] w fun e w' => e = .returned (.bool true) ∧ Below w.heap.size w w' := by
  have HA := Lib.hid hA
  have HN := Lib.hid hn
  have HT := Lib.hid (tokens_any w A n c hA hn)
  have HR := Lib.hid hr
  clear hA hn hr
  go_enter Tryd.func8, Tryd.ntmps8
  go_wp2_with fail
  refine HT.out.mono ?_
  rintro e w1 ⟨v1, ts, rfl, ho1, hl1, hsm, hb1⟩
  obtain ⟨A1, c1, rfl⟩ := owns_form ho1
  have HI1 := Lib.hid (InToks.own ho1 rfl)
  have HSM : Hid (∀ t ∈ ts, t.1.str.length ≤ 140737488355328) := fun t ht => by have := (hsm t ht).2.2.2.2; omega
  have hl2 : ts.length ≤ 16384 := by omega
  have HB1 := Lib.hid hb1
  have HR1 := Lib.hid (HR.out.below hb1)
  have HA1 := Lib.hid (HA.out.below hb1)
  clear ho1 hsm hb1 HT HR HA hl1
  cases made
  case' true =>
    go_wp2_with fail
    refine (layouted_any w1 A n c HA1.out HN.out).mono ?_
    rintro e w2 ⟨s, rfl, hs, hb2⟩
    replace HB1 := Lib.hid (HB1.out.trans (hb2.mono HB1.out.size))
    replace HR1 := Lib.hid (HR1.out.below hb2)
    clear hb2 HI1 HSM hl2
    have HSC := Lib.hid (fun W => rscan_any s (by unfold maxLen; omega) W)
    have hl2 := scan_length s.data.toList
    have hss := scan_str s.data.toList
    generalize scan s.data.toList = R at *
    obtain ⟨ts, ⟨pa, pb⟩, er⟩ := R
    simp only at hl2 hss
    have HSM : Hid (∀ t ∈ ts, t.1.str.length ≤ 140737488355328) := fun t ht => by have := hss t ht; omega
    clear hss
    go_wp2_with fail
    refine (HSC.out _).mono ?_
    rintro e w1 ⟨v1, rfl, ho1, hb1⟩
    simp only at ho1
    obtain ⟨A1, c1, rfl⟩ := owns_form ho1
    have HI1 := Lib.hid (InToks.own ho1 rfl)
    replace HB1 := Lib.hid (HB1.out.trans (hb1.mono HB1.out.size))
    replace HR1 := Lib.hid (HR1.out.below hb1)
    clear ho1 hb1
  all_goals
    have hz1 := HB1.out.size
    have hln := insL_len ts
    have HRM := Lib.hid (ins_removes ts)
    have HER := Lib.hid (insF_err ts startL)
    have HIN := Lib.hid (fun W A n c h1 h2 h3 => insert_all W A n c ts h1 h2 h3 (by omega) HSM.out)
    change Hid ((insL ts).2.2 ≠ 0 → (insL ts).1 = []) at HER
    generalize insL ts = Q at *
    obtain ⟨out, ⟨qa, qb⟩, e2⟩ := Q
    simp only at HRM HER hln
    go_wp2_with fail
    refine (HIN.out _ _ _ _ rfl HI1.out HR1.out).mono ?_
    rintro e w3 ⟨v3, rfl, ho3, hb3⟩
    simp only at ho3
    obtain ⟨A3, c3, rfl⟩ := owns_form ho3
    replace HI1 := Lib.hid (HI1.out.below hb3)
    replace HB1 := Lib.hid (HB1.out.trans (hb3.mono hz1))
    replace HR1 := Lib.hid (HR1.out.below hb3)
    have HI3 := Lib.hid (InToks.own ho3 rfl)
    replace hz1 := HB1.out.size
    clear ho3 hb3
    simp only
    by_cases h0 : e2 = 0
    · have g0 : (e2 == 0) = true := beq_iff_eq.2 h0
      obtain ⟨hrm, hbal⟩ := HRM.out h0
      have HRM2 := Lib.hid hrm
      have HBAL := Lib.hid hbal
      clear hrm hbal h0 HRM HER
      go_wp2_with fail
      refine (awake2_any _ (HR1.out.alloc _)).mono ?_
      rintro e w4 ⟨rfl, hb4⟩
      have HB4 := Lib.hid ((HB1.out.alloc hz1 _).trans (hb4.mono (by simp; omega)))
      have HI14 := Lib.hid ((HI1.out.alloc _).below hb4)
      have HI34 := Lib.hid ((HI3.out.alloc _).below hb4)
      have hz4 := HB4.out.size
      clear hb4 HI1 HI3 HB1 HR1
      go_wp2_with fail
      refine (remove_any _ A3 out.length c3 out rfl HI34.out (by omega)).mono ?_
      rintro e w5 ⟨A5, c5, rfl, hi5, hb5⟩
      rw [HRM2.out] at hi5 ⊢
      have HI5 := Lib.hid hi5
      have HB5 := Lib.hid (HB4.out.trans (hb5.mono hz4))
      have HI15 := Lib.hid (HI14.out.below hb5)
      have HI35 := Lib.hid (HI34.out.below hb5)
      clear hb5 hi5 HI14 HI34 HB4
      go_wp2_with fail
      refine (equal_toks ts _ rfl (by omega) A5 A1 c5 c1 _ HI5.out HI15.out).mono ?_
      rintro e w6 ⟨rfl, mm, rfl⟩
      go_wp2_with fail
      refine (balanced_any _ A3 out.length c3 out rfl (InToks.drewN HI35.out mm) (by omega)).mono ?_
      rw [HBAL.out]
      rintro e w7 ⟨rfl, hb7⟩
      have HB7 := Lib.hid ((below_drewN' HB5.out mm).trans (hb7.mono (below_drewN' HB5.out mm).size))
      clear hb7
      go_wp2_with fail
      go_ret
      exact ⟨rfl, HB7.out⟩
    · have g0 : (e2 == 0) = false := beq_eq_false_iff_ne.2 h0
      have he := HER.out h0
      subst he
      clear h0 HRM HER
      go_wp2_with fail
      refine (awake2_any _ (HR1.out.alloc _)).mono ?_
      rintro e w4 ⟨rfl, hb4⟩
      have HB4 := Lib.hid ((HB1.out.alloc hz1 _).trans (hb4.mono (by simp; omega)))
      clear hb4 HI1 HI3 HB1 HR1
      go_wp2_with fail
      go_ret
      exact ⟨rfl, HB4.out⟩

end Go.Proofs.YtebfnlahiodefaaDoor
