/- LayoutShifts: empty lines before a source change nothing but the lines of the positions. Conditions: a slice of numbers has a length; strconv.ErrRange holds an interface value. -/
import Derived.Test.YtebfnlahiodefaaDoorLayT2
import Derived.Test.YtebfnlahiodefaaDoorLayR
import Derived.Test.YtebfnlahiodefaaDoorLayH
namespace Go.Proofs.YtebfnlahiodefaaDoor
open Go.RowKit M

/-- the first j tokens shifted -/
def shJ (k : Int) (ts : List Tok) (j : Nat) : List Tok := (ts.take j).map (shT k) ++ ts.drop j
theorem shJ_at (k : Int) (ts : List Tok) (j : Nat) (t : Tok) (h : ts[j]? = some t) : (shJ k ts j)[j]? = some t ∧ (shJ k ts j).set j (shT k t) = shJ k ts (j + 1) := by
  have hj : j < ts.length := (List.getElem?_eq_some_iff.1 h).1
  have hl : ((ts.take j).map (shT k)).length = j := by simp; omega
  have hd : ts.drop j = t :: ts.drop (j + 1) := by
    rw [List.drop_eq_getElem_cons hj]
    have : ts[j] = t := by have := List.getElem?_eq_getElem hj; rw [h] at this; injection this with this; exact this.symm
    rw [this]
  unfold shJ
  rw [hd]
  refine ⟨?_, ?_⟩
  · rw [List.getElem?_append_right (by rw [hl]; exact Nat.le_refl _), hl, Nat.sub_self]; rfl
  · rw [List.set_append_right _ _ (by rw [hl]; exact Nat.le_refl _), hl, Nat.sub_self, List.set_cons_zero, List.take_add_one, h]
    simp
theorem shJ_len (k : Int) (ts : List Tok) (j : Nat) : (shJ k ts j).length = ts.length := by
  unfold shJ; rw [List.length_append, List.length_map, List.length_take, List.length_drop]; omega
theorem shJ_end (k : Int) (ts : List Tok) : shJ k ts ts.length = ts.map (shT k) := by unfold shJ; rw [List.take_length, List.drop_length, List.append_nil]
theorem tokSet3 (t : Tok) (k : Int) (h : 1 ≤ t.2.1) : (tokCells t).set 3 (.int .i64 (t.2.1 + k)) = tokCells (shT k t) := by
  unfold shT tokCells
  simp only
  rw [shP_pos h]
  rfl

theorem wpList_append_opt {P : Program} {w : World} {ops : Array Oper} {rest : List Oper} {o : Oper} {a : Act} {Q : Exit → Act → World → Prop} (hgd : o.guard = none) (s x : Operand) (t : TypeId)
    (ho : o.op = .call { callee := .builtin .append, args := #[s, x], argTypes := #[t, t] })
    (base : Nat) (e : TypeId) (i : TypeInfo) (z : Value) (size bytes : Nat) (ht : P.underlying t = some (.slice e)) (hi : P.info? e = some i) (hz : i.zero = some z)
    (hsize : i.size = size) (hby : i.bytes = bytes) (hzs : z.cells.size = size) (hsz : 0 < size)
    (v : Value) (n : Nat) (xs : List Value) (hs : a.eval s = v) (hown : w.ownsRow base e size v n xs)
    (A : Option Addr) (m c : Nat) (news : List Value) (hx : a.eval x = .slice A m c) (hl : news.length = m * size)
    (hsrc : (A = none ∧ m = 0 ∧ c = 0) ∨ ∃ ad : Addr, A = some ad ∧ ∀ j u, news[j]? = some u → w.cell? (ad.add j) = some u) (h1 : ∀ u ∈ news, u.oneCell' = true)
    (h63 : n + m ≤ maxLen) (hbytes : (n + m) * bytes ≤ 140737488355328) (hbase : base ≤ w.heap.size)
    (h : ∀ v' w', w'.ownsRow base e size v' (n + m) (xs ++ news) → w.grownBy w' v.ownBlock → wpList P ops Q rest (a.put o.dst v') w') : wpList P ops Q (o :: rest) a w := by
  rcases hsrc with ⟨rfl, rfl, rfl⟩ | ⟨ad, rfl, hc⟩
  · have hnil : news = [] := List.eq_nil_of_length_eq_zero (by omega)
    subst hnil
    exact wpList_append_own_none hgd s x t ho base e i size ht hi v n xs hs hown hx (h v w (by rw [List.append_nil]; exact hown) ⟨rfl, rfl, rfl, Nat.le_refl _, fun _ _ _ => rfl⟩)
  · exact wpList_append_own w hgd s x t ho base e i z size bytes ht hi hz hsize hby hzs hsz v n xs hs hown ad m c news hx hl hc h1 h63 hbytes hbase (fun v' w' a b _ => h v' w' a b)

set_option maxRecDepth 100000 in
set_option maxHeartbeats 6400000 in
theorem layoutShifts_core (w : World) (A : Option Addr) (n c : Nat) (z : Int) (hA : InInts w A n) (hn : n ≤ maxLen) (hz0 : 0 ≤ z) (hz1 : z ≤ 255) (kk : Nat) (hk : z % 50 = kk) (hr : RangeVar w) :
    Calls Tryd.prog 13 #[.slice A n c, .int .u8 z] w fun e w' => e = .returned (.bool true) ∧ Below w.heap.size w w' := by
  have hk50 : kk < 50 := by omega
  have HT := Lib.hid (tokens_any w A n c hA hn)
  have HR := Lib.hid hr
  clear hA hn hr
  go_enter Tryd.func13, Tryd.ntmps13
  go_wp2_with fail
  refine HT.out.mono ?_
  rintro e w1 ⟨v1, ts, rfl, ho1, hl1, hsm, hb1⟩
  obtain ⟨A1, c1, rfl⟩ := owns_form ho1
  have HO1 := Lib.hid ho1
  have HSM := Lib.hid hsm
  have HB1 := Lib.hid hb1
  have HR1 := Lib.hid (HR.out.below hb1)
  have HSRC : Hid ((A1 = none ∧ ts.length = 0 ∧ c1 = 0) ∨ ∃ ad : Addr, A1 = some ad ∧ ∀ j u, (toksCells ts)[j]? = some u → w1.cell? (ad.add j) = some u) := by
    rcases ho1.2 with ⟨h, h0⟩ | ⟨g, cap, cur, h, _⟩
    · injection h with h1 h2 h3
      exact .inl ⟨h1, h0, h3⟩
    · injection h with h1
      subst h1
      exact .inr ⟨_, rfl, ho1.cells rfl⟩
  obtain ⟨i0, hi0, hiz0, hiz1, hiz2⟩ := info_parts token_info
  clear ho1 hsm hb1 HT
  have HM := Lib.hid (show w1.ownsRow w1.heap.size 25 5 (.slice none 0 0) 0 [] from World.ownsRow_nil _ _ _ _)
  go_wp2_with (at_builtin; refine wpList_append_opt rfl _ _ 26 rfl w1.heap.size 25 i0 _ 5 48 Tryd.underlying26 hi0 hiz0 hiz1 hiz2 rfl (by decide) _ _ _ rfl HM.out A1 ts.length c1 (toksCells ts) rfl (toks_length ts) HSRC.out ?c3 ?c4 ?c5 ?c6 ?_)
  case c3 => intro u hu; obtain ⟨t, ht, hu⟩ := List.mem_flatMap.1 hu; exact tok_one t u hu
  case c4 => unfold maxLen; omega
  case c5 => omega
  case c6 => exact Nat.le_refl _
  intro v2 w2 hown2 hgrow2
  have hown2 : w2.ownsRow w1.heap.size 25 5 v2 ts.length (toksCells ts) := hown2
  have hB2 : Below w1.heap.size w1 w2 := ⟨hgrow2.os, hgrow2.tape, hgrow2.output, hgrow2.size, fun k hk => hgrow2.block k hk (by intro e; cases e)⟩
  obtain ⟨A2, c2, rfl⟩ := owns_form hown2
  have HO2 : Hid (w2.ownsRow w1.heap.size 25 5 (.slice A2 ts.length c2) ts.length (toksCells (shJ kk ts 0))) := hown2
  have HB2 := Lib.hid hB2
  clear hown2 hgrow2 hB2 HM HSRC
  go_wp2_with fail
  go_loopw [8] (fun i wr => ∃ k : Nat, i = .int .i64 k ∧ k ≤ ts.length ∧ Hid (wr.ownsRow w1.heap.size 25 5 (.slice A2 ts.length c2) ts.length (toksCells (shJ kk ts k))) ∧ Hid (Below w1.heap.size w1 wr)) (fun i _ => ts.length - (intOf i).toNat)
  case atStart => exact ⟨0, rfl, by omega, HO2, HB2⟩
  case round =>
    obtain ⟨k, rfl, hk, hO, hB⟩ := hrel
    clear HO2 HB2
    by_cases hlt : k < ts.length
    · obtain ⟨t, ht⟩ : ∃ t, ts[k]? = some t := ⟨ts[k], List.getElem?_eq_getElem hlt⟩
      obtain ⟨hj, hjs⟩ := shJ_at kk ts k t ht
      obtain ⟨s1, s2, -⟩ := HSM.out t (List.mem_of_getElem? ht)
      obtain ⟨g2, c2', he, hg2, hg2', -, hcell⟩ := owns_cell hO.out (by omega)
      injection he with e1 e2 e3
      subst e1 e3
      have x3 : wr.cell? ⟨g2, k * 5 + 3, none⟩ = some (.int .i64 t.2.1) := hcell _ _ (toks_at _ k t hj 3 _ rfl)
      have fz : wr.frozen? ⟨g2, k * 5 + 3, none⟩ = false := hO.out.frozenAt _
      have hO2 := Lib.hid (owns_tok hO.out hj 3 (by omega) (.int .i64 (t.2.1 + kk)) (shT kk t) (tokSet3 t kk s1))
      rw [hjs] at hO2
      have hB2 := Lib.hid (hB.out.setCell (p := ⟨g2, k * 5 + 3, none⟩) hg2 (.int .i64 (t.2.1 + kk)))
      clear hcell ht hj hjs
      generalize t.2.1 = a at *
      go_wp2
      go_roundw
      case rel => exact ⟨k + 1, rfl, by omega, hO2, hB2⟩
      case measure => simp [intOf]; omega
    · obtain rfl : k = ts.length := by omega
      have hOm := hO.out
      rw [shJ_end] at hOm
      have HI1 := Lib.hid (InToks.below (InToks.below (InToks.own HO1.out rfl) (Below.refl _ _)) hB.out)
      have HIm := Lib.hid (InToks.own hOm (by rw [List.length_map]))
      have HRr := Lib.hid (HR1.out.below hB.out)
      have HBr := Lib.hid (HB1.out.trans (hB.out.mono HB1.out.size))
      have hzr := HBr.out.size
      have hsh := ins_shifts (k := (kk : Int)) (by omega) ts (fun t ht => (HSM.out t ht).1)
      have hpos := insL_pos (P := fun p => p = (0, 0) ∨ (1 ≤ p.1 ∧ p.1 ≤ 1000)) (.inl rfl) (.inr (by decide)) ts (fun t ht => .inr ⟨(HSM.out t ht).1, (HSM.out t ht).2.1⟩)
      have hlen := insL_len ts
      have HA1 := Lib.hid (fun W h hr => insert_all W A1 ts.length c1 ts rfl h hr (by omega) (fun t ht => by have := (HSM.out t ht).2.2.2.2; omega))
      have HA2 := Lib.hid (fun W h hr => insert_all W A2 ts.length c2 (ts.map (shT kk)) (by rw [List.length_map]) h hr (by rw [List.length_map]; omega) (fun t ht => by
        obtain ⟨u, hu, rfl⟩ := List.mem_map.1 ht
        have := (HSM.out u hu).2.2.2.2
        show u.1.str.length ≤ _
        omega))
      generalize insL ts = R1 at *
      generalize insL (ts.map (shT kk)) = R2 at *
      obtain ⟨o1, p1, e1⟩ := R1
      obtain ⟨o2, p2, e2⟩ := R2
      obtain ⟨he, hout⟩ := hsh
      simp only at he hout hlen hpos
      subst he
      have hl2 : o2.length = o1.length := by
        rcases hout with ⟨h1, h2⟩ | ⟨r, h1, h2⟩
        · rw [h1, h2]
        · rw [h1, h2]; simp
      have HPOS := Lib.hid hpos
      have HOUT := Lib.hid hout
      clear hOm hO hB hpos hout HO1 HB1 HR1
      clear hi0 hiz0 hiz1 hiz2
      go_wp2_with fail
      refine (HA1.out _ HI1.out HRr.out).mono ?_
      rintro e w3 ⟨v3, rfl, ho3, hb3⟩
      obtain ⟨A3, c3, rfl⟩ := owns_form ho3
      have HO3 := Lib.hid ho3
      have HIm3 := Lib.hid (HIm.out.below hb3)
      have HR3 := Lib.hid (HRr.out.below hb3)
      have HB3 := Lib.hid (HBr.out.trans (hb3.mono hzr))
      have hz3 := HB3.out.size
      clear ho3 hb3 HIm HRr HBr
      simp only at HO3 ⊢
      go_wp2_with fail
      refine (HA2.out _ (HIm3.out.alloc _) (HR3.out.alloc _)).mono ?_
      rintro e w4 ⟨v4, rfl, ho4, hb4⟩
      rw [hl2] at ho4
      obtain ⟨A4, c4, rfl⟩ := owns_form ho4
      have HO4 := Lib.hid ho4
      have HO34 := Lib.hid (owns_below (owns_alloc_n HO3.out _) hb4)
      have HR4 := Lib.hid ((HR3.out.alloc _).below hb4)
      have HB4 := Lib.hid ((HB3.out.alloc hz3 _).trans (hb4.mono (by simp; omega)))
      have hz4 := HB4.out.size
      clear ho4 hb4 HIm3 HR3 HB3 HO3
      simp only at HO4 ⊢
      go_wp2_with fail
      refine (awake2_any _ (HR4.out.alloc _)).mono ?_
      rintro e w5 ⟨rfl, hb5⟩
      have HB5 := Lib.hid ((HB4.out.alloc hz4 _).trans (hb5.mono (by simp; omega)))
      have HI3 := Lib.hid ((InToks.own (HO34.out.alloc _) rfl).below hb5)
      have HI4 := Lib.hid ((InToks.own (HO4.out.alloc _) hl2.symm).below hb5)
      have hz5 := HB5.out.size
      clear hb5 HO34 HO4 HR4 HB4
      have ge : (e2 == e2) = true := beq_self_eq_true e2
      have gl : ((o1.length : Int) == (o1.length : Int)) = true := beq_self_eq_true _
      go_wp2_with fail
      clear ge gl HA1 HA2 HI1
      go_loopw [15] (fun i wx => ∃ k : Nat, i = .int .i64 k ∧ 1 ≤ k ∧ k ≤ o1.length + 1 ∧ Hid (Below w5.heap.size w5 wx)) (fun i _ => o1.length + 1 - (intOf i).toNat)
      case atStart => exact ⟨1, rfl, by omega, by omega, Below.refl _ _⟩
      case round =>
        obtain ⟨k, rfl, hk1, hk2, hBx⟩ := hrel
        by_cases hlt2 : k < o1.length
        · have HI3x := HI3.out.below hBx.out
          have HI4x := HI4.out.below hBx.out
          rcases HOUT.out with ⟨hn1, -⟩ | ⟨r, hn1, hn2⟩
          · rw [hn1] at hlt2; simp at hlt2
          obtain ⟨j, rfl⟩ : ∃ j, k = j + 1 := ⟨k - 1, by omega⟩
          obtain ⟨t, ht⟩ : ∃ t, o1[j + 1]? = some t := ⟨o1[j + 1], List.getElem?_eq_getElem hlt2⟩
          have ht2 : o2[j + 1]? = some (shT kk t) := by
            rw [hn2, List.getElem?_cons_succ, List.getElem?_map]; rw [hn1, List.getElem?_cons_succ] at ht
            rw [ht]; rfl
          rcases HI3x with hnil | ⟨g3, f3, rfl, hg3, hc3⟩
          · rw [hnil] at hlt2; simp at hlt2
          rcases HI4x with hnil | ⟨g4, f4, rfl, hg4, hc4⟩
          · rw [hnil] at ht2; simp at ht2
          have hp := HPOS.out t (List.mem_of_getElem? ht)
          obtain ⟨⟨kd, nu, st, er⟩, a, b⟩ := t
          have x0 := hc3 _ _ ht 0 _ rfl
          have x1 := hc3 _ _ ht 1 _ rfl
          have x2 := hc3 _ _ ht 2 _ rfl
          have x3 := hc3 _ _ ht 3 _ rfl
          have x4 := hc3 _ _ ht 4 _ rfl
          have hBy : ∀ (o : Obj), Hid (Below w5.heap.size w5 (wr.alloc o)) := fun o => hBx.out.alloc hBx.out.size o
          clear hc3 ht hn1 hn2
          simp only at hp
          rcases hp with hp | hp
          · injection hp with ha hb
            subst ha hb
            have e0 : shT kk ((⟨kd, nu, st, er⟩ : _), ((0 : Int), (0 : Int))) = (⟨kd, nu, st, er⟩, (0, 0)) := by unfold shT shP; simp
            rw [e0] at ht2
            have y0 := hc4 _ _ ht2 0 _ rfl
            have y1 := hc4 _ _ ht2 1 _ rfl
            have y2 := hc4 _ _ ht2 2 _ rfl
            have y3 := hc4 _ _ ht2 3 _ rfl
            have y4 := hc4 _ _ ht2 4 _ rfl
            simp only [Nat.add_zero] at x0 y0
            clear hc4 ht2 e0
            go_wp2_with fail
            go_quiet (fail)
            go_wp2_with fail
            go_roundw
            case rel => exact ⟨j + 1 + 1, by go_num, by omega, by omega, below_drewN' (hBy _).out _⟩
            case measure => simp [intOf]; omega
          · obtain ⟨ha1, ha2⟩ := hp
            have e0 : shT kk ((⟨kd, nu, st, er⟩ : _), (a, b)) = (⟨kd, nu, st, er⟩, (a + kk, b)) := by unfold shT; rw [shP_pos ha1]
            rw [e0] at ht2
            have y0 := hc4 _ _ ht2 0 _ rfl
            have y1 := hc4 _ _ ht2 1 _ rfl
            have y2 := hc4 _ _ ht2 2 _ rfl
            have y3 := hc4 _ _ ht2 3 _ rfl
            have y4 := hc4 _ _ ht2 4 _ rfl
            simp only [Nat.add_zero] at x0 y0
            have g0 : (a == 0) = false := beq_eq_false_iff_ne.2 (by omega)
            clear hc4 ht2 e0
            go_wp2_with fail
            go_quiet (fail)
            go_wp2_with fail
            go_roundw
            case rel => exact ⟨j + 1 + 1, by go_num, by omega, by omega, below_drewN' (hBy _).out _⟩
            case measure => simp [intOf]; omega
        · go_wp2
          go_ret
          exact ⟨rfl, HB5.out.trans (hBx.out.mono hz5)⟩

theorem layoutShifts_any (w : World) (A : Option Addr) (n c : Nat) (z : Int) (hA : InInts w A n) (hn : n ≤ maxLen) (hz0 : 0 ≤ z) (hz1 : z ≤ 255) (hr : RangeVar w) :
    Calls Tryd.prog 13 #[.slice A n c, .int .u8 z] w fun e w' => e = .returned (.bool true) ∧ Below w.heap.size w w' :=
  layoutShifts_core w A n c z hA hn hz0 hz1 (z % 50).toNat (by omega) hr

end Go.Proofs.YtebfnlahiodefaaDoor
