/- The reference's match: what it finds is what the model says. Condition: at most 512 nodes, at most 2048 bindings. -/
-- by tools/gen_rmatch.py
import Derived.Test.YtcnanbmbdajcaaaDoorTyY9
namespace Go.Proofs.YtcnanbmbdajcaaaDoor
open Go.RowKit M

theorem lsFlat_drop {ls : List TS} {j : Nat} {x : TS} (h : ls[j]? = some x) : lsFlat (ls.drop j) = x.2.2 ++ lsFlat (ls.drop (j + 1)) := by
  have hl := (List.getElem?_eq_some_iff.1 h).1
  rw [List.drop_eq_getElem_cons hl]
  rw [List.getElem?_eq_getElem hl] at h
  rw [Option.some.inj h]
  simp [lsFlat]
theorem lsFlat_mem {ls : List TS} {p : TS} (h : p ∈ ls) : ∀ t ∈ p.2.2, t ∈ lsFlat ls := fun _ ht => List.mem_flatten.2 ⟨p.2.2, List.mem_map_of_mem (f := fun x : TS => x.2.2) h, ht⟩
theorem mtch_cons_same {t : TN} {a b : List TN} {e : Int → Option (List TN)} (hk : t.1 ≠ 1) : mtch (t :: a) (t :: b) e = mtch a b e := by
  rw [mtch_node hk]; simp

set_option linter.unusedSimpArgs false in
set_option maxRecDepth 100000 in
set_option maxHeartbeats 12800000 in
theorem rmatch_node (N : Nat) (ih : RmCon N) (w : World) (S : Option Addr) (cs : Nat) (bs : List BS) (e0 : Int → Option (List TN)) (A : Option Addr) (ca : Nat) (kd num : Int) (kn : Nat) (r : List TN) (B : Option Addr) (cb : Nat) (kd' num' : Int) (kn' : Nat) (r2 : List TN) (n m : Nat)
    (hn : n = r.length + 1) (hm : m = r2.length + 1) (hN : r.length ≤ N) (hn5 : n ≤ 512) (hm5 : m ≤ 512) (hbl : bs.length + n ≤ 2048) (hcs : bs.length ≤ cs) (hca : n ≤ ca) (hcb : m ≤ cb) (hk : kd ≠ 1) (hf : Full kn r) (hf2 : Full kn' r2) (hk9 : kn ≤ 9)
    (hv : ∀ t ∈ r, vN t = true) (hv2 : ∀ t ∈ r2, vN t = true) (hR : Rep (bs.map mb) e0) (hS : InB w S bs) (hA : InC w A (((kd, num, (kn : Int)) :: r).flatMap ndCells)) (hB : InC w B (((kd', num', (kn' : Int)) :: r2).flatMap ndCells)) :
    Calls Tryd.prog 38 #[.slice S bs.length cs, .slice A n ca, .slice B m cb] w (RmPost ((kd, num, (kn : Int)) :: r) ((kd', num', (kn' : Int)) :: r2) bs.length e0 w) := by
  have HR := Lib.hid hR
  have HS := hide hS
  have HA := hide hA
  have HBB := hide hB
  have HN := Lib.hid hn
  have HM := Lib.hid hm
  have HNN := Lib.hid hN
  have HF := Lib.hid hf
  have HF2 := Lib.hid hf2
  have HV := Lib.hid hv
  have HV2 := Lib.hid hv2
  have HIH := Lib.hid ih
  have g0 : (kd == 1) = false := beq_eq_false_iff_ne.2 hk
  have HKD := Lib.hid hk
  obtain ⟨ba, oa, rfl, hba, hc1⟩ := hA.elem nd_len (k := 0) (t := (kd, num, (kn : Int))) rfl (by decide)
  obtain ⟨bb, ob, rfl, hbb, hc2⟩ := hB.elem nd_len (k := 0) (t := (kd', num', (kn' : Int))) rfl (by decide)
  have x0 := hc1 0 _ rfl
  have x1 := hc1 1 _ rfl
  have x2 := hc1 2 _ rfl
  have y0 := hc2 0 _ rfl
  have y1 := hc2 1 _ rfl
  have y2 := hc2 2 _ rfl
  simp only [Nat.zero_mul, Nat.add_zero] at x0 y0 x1 x2 y1 y2
  have hn1 : 1 ≤ n := by omega
  have hm1 : 1 ≤ m := by omega
  clear hR hS hA hB hc1 hc2 hn hm hN hf hf2 hv hv2 ih hk
  go_enter Tryd.func38, Tryd.ntmps38
  by_cases he : kd = kd' ∧ num = num' ∧ (kn : Int) = kn'
  · obtain ⟨rfl, rfl, he3⟩ := he
    obtain rfl : kn = kn' := by omega
    clear he3
    go_wp2_with fail
    go_quiet (fail)
    go_wp2_with fail
    refine (rparts_any _ _ n ca kn kd num r HN.out hn5 hca (fun t ht => vN_kids (HV.out t ht)) hk9 HF.out ((unhide HA).drewN _)).mono ?_
    rintro e w1 ⟨A1, c1, ls, rfl, hO1, hb1, hY1, hq1, hl1⟩
    have HB1 := hide ((below_drewN (Below.refl w.heap.size w) nq).trans hb1)
    have HO1 := hide (owns_base (b' := w.heap.size) hO1 (Nat.le_refl _))
    have HY1 := Lib.hid hY1
    have HQ1 := Lib.hid hq1
    have HL1 := Lib.hid hl1
    have HA1 := hide ((unhide HBB).below (unhide HB1))
    have hz1 := (unhide HB1).size
    clear hO1 hb1 hY1 hq1 hl1
    go_wp2_with fail
    refine (rparts_any w1 _ m cb kn kd num r2 HM.out hm5 hcb (fun t ht => vN_kids (HV2.out t ht)) hk9 HF2.out (unhide HA1)).mono ?_
    rintro e w2 ⟨A2, c2, ls2, rfl, hO2, hb2, hY2, hq2, hl2⟩
    have HB2 := hide ((unhide HB1).trans (hb2.mono hz1))
    have HO2 := hide (owns_base (b' := w.heap.size) hO2 hz1)
    have HP2 := hide (owns_below (unhide HO1) hb2)
    have HY2 := Lib.hid hY2
    have HZ2 := Lib.hid (HY1.out.below hb2)
    have HQ2 := Lib.hid hq2
    have HL2 := Lib.hid hl2
    have hll1 : ls.length ≤ 9 := by have := HL1.out; omega
    have HS2 := hide ((unhide HS).below (unhide HB2))
    clear hO2 hb2 hY2 hq2 hl2 HO1 HA1
    have HKN1 : Hid (∀ j, j < kn → ∃ x, ls[j]? = some x) := Lib.hid fun j hj => ⟨ls[j]'(by rw [HL1.out]; exact hj), List.getElem?_eq_getElem _⟩
    have HKN2 : Hid (∀ j, j < kn → ∃ x, ls2[j]? = some x) := Lib.hid fun j hj => ⟨ls2[j]'(by rw [HL2.out]; exact hj), List.getElem?_eq_getElem _⟩
    have hlk1 : kn ≤ ls.length := by have := HL1.out; omega
    have hlk2 : ls.length ≤ kn := by have := HL1.out; omega
    have hlk3 : kn ≤ ls2.length := by have := HL2.out; omega
    have hlk4 : ls2.length ≤ 9 := by have := HL2.out; omega
    have HE0 : Hid (mtch ((kd, num, (kn : Int)) :: r) ((kd, num, (kn : Int)) :: r2) e0 = mtch (lsFlat (ls.drop 0)) (lsFlat (ls2.drop 0)) e0) := Lib.hid (by
      rw [mtch_cons_same HKD.out, List.drop_zero, List.drop_zero, HQ1.out, HQ2.out])
    have HG0 : Hid (finE ((kd, num, (kn : Int)) :: r) ((kd, num, (kn : Int)) :: r2) e0 = finE (lsFlat (ls.drop 0)) (lsFlat (ls2.drop 0)) e0) := Lib.hid (by
      rw [finE_node HKD.out, List.drop_zero, List.drop_zero, HQ1.out, HQ2.out])
    have HC0 : Hid (bs.length + (lsFlat (ls.drop 0)).length + 1 ≤ bs.length + n) := Lib.hid (by rw [List.drop_zero, HQ1.out, HN.out]; omega)
    go_wp2_with fail
    go_loopw [0, 13] (fun sv iv wr => ∃ (j : Nat) (S' : Option Addr) (c' : Nat) (bs' : List BS) (e' : Int → Option (List TN)), iv = .int .i64 j ∧ j ≤ kn ∧ sv = .slice S' bs'.length c' ∧ bs'.length ≤ c' ∧ Hid (bs'.length + (lsFlat (ls.drop j)).length + 1 ≤ bs.length + n) ∧ Hid (InB wr S' bs') ∧ Hid (Rep (bs'.map mb) e') ∧
      Hid (mtch ((kd, num, (kn : Int)) :: r) ((kd, num, (kn : Int)) :: r2) e0 = mtch (lsFlat (ls.drop j)) (lsFlat (ls2.drop j)) e') ∧ Hid (finE ((kd, num, (kn : Int)) :: r) ((kd, num, (kn : Int)) :: r2) e0 = finE (lsFlat (ls.drop j)) (lsFlat (ls2.drop j)) e') ∧
      Hid (wr.ownsRow w.heap.size 22 1 (.slice A1 ls.length c1) ls.length (ls.map tsV)) ∧ Hid (wr.ownsRow w.heap.size 22 1 (.slice A2 ls2.length c2) ls2.length (ls2.map tsV)) ∧ Hid (Kids wr 0 ls) ∧ Hid (Kids wr 0 ls2) ∧ Hid (Below w.heap.size w wr)) (fun _ iv _ => kn - (intOf iv).toNat)
    case atStart => exact ⟨0, S, cs, bs, e0, rfl, by omega, rfl, hcs, HC0.out, unhide HS2, HR.out, HE0.out, HG0.out, unhide HP2, unhide HO2, HZ2.out, HY2.out, unhide HB2⟩
    case round =>
      obtain ⟨j, S', c', bs', e', rfl, hj, rfl, hbc, hC, hSb, hRp, hE, hG, hP, hO, hK1, hK2, hB⟩ := hrel
      by_cases hjl : j < kn
      · obtain ⟨x, hx⟩ := HKN1.out j hjl
        obtain ⟨y, hy⟩ := HKN2.out j hjl
        obtain ⟨b5, o5, rfl, hb5, z0⟩ := (InC.own hP.out).at1' (i := j) (u := tsV x) (by rw [List.getElem?_map, hx]; rfl)
        obtain ⟨b6, o6, rfl, hb6, z1⟩ := (InC.own hO.out).at1' (i := j) (u := tsV y) (by rw [List.getElem?_map, hy]; rfl)
        have hmx := List.mem_of_getElem? hx
        have hmy := List.mem_of_getElem? hy
        have HFX := Lib.hid (hK1.out.full x hmx)
        have HFY := Lib.hid (hK2.out.full y hmy)
        have HIX := hide (hK1.out.inC x hmx)
        have HIY := hide (hK2.out.inC y hmy)
        have hxc := hK1.out.cap x hmx
        have hyc := hK2.out.cap y hmy
        have HVX : Hid (∀ t ∈ x.2.2, vN t = true) := Lib.hid fun t ht => HV.out t (by rw [← HQ1.out]; exact lsFlat_mem hmx t ht)
        have HVY : Hid (∀ t ∈ y.2.2, vN t = true) := Lib.hid fun t ht => HV2.out t (by rw [← HQ2.out]; exact lsFlat_mem hmy t ht)
        have e1 := lsFlat_drop hx
        have e2 := lsFlat_drop hy
        have HLV : Hid (M.Leaves x.2.2) := Lib.hid fun t ht h1 => vN_var (HVX.out t ht) h1
        have hap := mtch_append x.2.2 y.2.2 e' 1 HLV.out HFX.out HFY.out (lsFlat (ls.drop (j + 1))) (lsFlat (ls2.drop (j + 1)))
        have hE1 := hE.out
        have hG1 := hG.out
        rw [e1, e2, hap.1] at hE1
        rw [e1, e2] at hG1
        have HE1 := Lib.hid hE1
        have HG1 : Hid (mtch x.2.2 y.2.2 e' = true → finE ((kd, num, (kn : Int)) :: r) ((kd, num, (kn : Int)) :: r2) e0 = finE (lsFlat (ls.drop (j + 1))) (lsFlat (ls2.drop (j + 1))) (finE x.2.2 y.2.2 e')) := Lib.hid fun h => hG1.trans (hap.2 h)
        have HC1 : Hid (bs'.length + (x.2.2.length + (lsFlat (ls.drop (j + 1))).length) + 1 ≤ bs.length + n) := Lib.hid (by have := hC.out; rwa [e1, List.length_append] at this)
        have hx5 : x.2.2.length ≤ 512 := by have := HC1.out; have h2 := congrArg List.length HQ1.out; have h3 := HN.out; have := List.length_flatten (L := ls.map (·.2.2)); have hq : x.2.2.length ≤ (lsFlat ls).length := (List.sublist_flatten_of_mem (List.mem_map_of_mem (f := fun z : TS => z.2.2) hmx)).length_le; omega
        have hxN : x.2.2.length ≤ N := by have h2 := congrArg List.length HQ1.out; have h3 := HNN.out; have hq : x.2.2.length ≤ (lsFlat ls).length := (List.sublist_flatten_of_mem (List.mem_map_of_mem (f := fun z : TS => z.2.2) hmx)).length_le; omega
        have hy5 : y.2.2.length ≤ 512 := by have h2 := congrArg List.length HQ2.out; have h3 := HM.out; have hq : y.2.2.length ≤ (lsFlat ls2).length := (List.sublist_flatten_of_mem (List.mem_map_of_mem (f := fun z : TS => z.2.2) hmy)).length_le; omega
        have hxb : bs'.length + x.2.2.length ≤ 2048 := by have := HC1.out; omega
        obtain ⟨xA, xc, xs⟩ := x
        obtain ⟨yA, yc, ys⟩ := y
        simp only at hxc hyc hx5 hxN hy5 hxb
        have hbz := hB.out.size
        clear hx hy hmx hmy e1 e2 hap hE1 hG1 hE hG hC
        cases hmm : mtch xs ys e'
        · have HMF : Hid (mtch ((kd, num, (kn : Int)) :: r) ((kd, num, (kn : Int)) :: r2) e0 = false) := Lib.hid (by rw [HE1.out, hmm]; rfl)
          go_wp2_with fail
          have fd0 : Hid (wr.drew.cell? ⟨b5, o5 + j, none⟩ = some (.slice xA xs.length xc)) := z0
          have fd1 : Hid (wr.drew.cell? ⟨b6, o6 + j, none⟩ = some (.slice yA ys.length yc)) := z1
          have HBd : Hid (Below w.heap.size w wr.drew) := below_drew hB.out
          have HSd : Hid (InB wr.drew S' bs') := ⟨hSb.out.1.drew, hSb.out.2⟩
          have HXd : Hid (InC wr.drew xA (xs.flatMap ndCells)) := (unhide HIX).drew
          have HYd : Hid (InC wr.drew yA (ys.flatMap ndCells)) := (unhide HIY).drew
          have HPd : Hid (wr.drew.ownsRow w.heap.size 22 1 (.slice (some ⟨b5, o5, none⟩) ls.length c1) ls.length (ls.map tsV)) := hP.out.drew
          have HOd : Hid (wr.drew.ownsRow w.heap.size 22 1 (.slice (some ⟨b6, o6, none⟩) ls2.length c2) ls2.length (ls2.map tsV)) := hO.out.drew
          have HKd1 : Hid (Kids wr.drew 0 ls) := ⟨hK1.out.full, hK1.out.inC, hK1.out.cap⟩
          have HKd2 : Hid (Kids wr.drew 0 ls2) := ⟨hK2.out.full, hK2.out.inC, hK2.out.cap⟩
          have hk5 : b5 < wr.drew.heap.size := hb5
          have hk6 : b6 < wr.drew.heap.size := hb6
          clear hP hO hK1 hK2 hB hSb HIX HIY
          refine wp_region_noPanic ?_
          refine wp_region_held_drew (S := fun W => W.cell? ⟨b5, o5 + j, none⟩ = some (.slice xA xs.length xc) ∧ W.cell? ⟨b6, o6 + j, none⟩ = some (.slice yA ys.length yc)) (by kernel_rfl) ⟨fd0, fd1⟩ (fun _ => ?_)
          generalize wr.drew = wd at *
          try simp only [Act.put, List.setIfInBounds_toArray, List.set_cons_zero, List.set_cons_succ]
          refine wpAnyH_take (i := 0) (oi := { dst := some 98, op := Op.move (Operand.tmp 0), type := 38, pos := "types.go:330", after := #[], guard := none }) (v := ?_) rfl (by kernel_rfl) (by kernel_rfl) (by kernel_rfl) (fun _ _ _ h => h) (Or.inl ⟨by rfl, ?_⟩) ⟨fd0, fd1⟩ ?_
          rotate_left 1
          · intro w hSw
            obtain ⟨hSw0, hSw1⟩ := hSw
            go_simp
            first
              | done
              | with_reducible rfl
              | rw [if_neg (by omega)]
          try simp only [Act.put, List.setIfInBounds_toArray, List.set_cons_zero, List.set_cons_succ]
          refine wpAnyH_take (i := 1) (oi := { dst := some 99, op := Op.move (Operand.tmp 11), type := 76, pos := "types.go:330", after := #[], guard := none }) (v := ?_) rfl (by kernel_rfl) (by kernel_rfl) (by kernel_rfl) (fun _ _ _ h => h) (Or.inl ⟨by rfl, ?_⟩) ⟨fd0, fd1⟩ ?_
          rotate_left 1
          · intro w hSw
            obtain ⟨hSw0, hSw1⟩ := hSw
            go_simp
            first
              | done
              | with_reducible rfl
              | rw [if_neg (by omega)]
          try simp only [Act.put, List.setIfInBounds_toArray, List.set_cons_zero, List.set_cons_succ]
          refine wpAnyH_take (i := 2) (oi := { dst := some 100, op := Op.move (Operand.tmp 13), type := 3, pos := "types.go:330", after := #[], guard := none }) (v := ?_) rfl (by kernel_rfl) (by kernel_rfl) (by kernel_rfl) (fun _ _ _ h => h) (Or.inl ⟨by rfl, ?_⟩) ⟨fd0, fd1⟩ ?_
          rotate_left 1
          · intro w hSw
            obtain ⟨hSw0, hSw1⟩ := hSw
            go_simp
            first
              | done
              | with_reducible rfl
              | rw [if_neg (by omega)]
          try simp only [Act.put, List.setIfInBounds_toArray, List.set_cons_zero, List.set_cons_succ]
          refine wpAnyH_take (i := 3) (oi := { dst := some 101, op := Op.indexAddr 76 (Operand.tmp 99) (Operand.tmp 100), type := 0, pos := "types.go:330", after := #[{ on := 1, ground := Ground.data }, { on := 2, ground := Ground.data }], guard := none }) (v := .pointer (some ⟨b5, o5 + j, none⟩)) rfl (by kernel_rfl) (by kernel_rfl) (by kernel_rfl) (fun _ _ _ h => h) (Or.inl ⟨by rfl, ?_⟩) ⟨fd0, fd1⟩ ?_
          · intro w hSw
            go_simp
            first | done | (intro hc; omega) | rw [if_pos (by omega)]
          try simp only [Act.put, List.setIfInBounds_toArray, List.set_cons_zero, List.set_cons_succ]
          refine wpAnyH_take (i := 4) (oi := { dst := some 102, op := Op.load 22 (Operand.tmp 101), type := 22, pos := "types.go:330", after := #[{ on := 3, ground := Ground.data }], guard := none }) (v := ?_) rfl (by kernel_rfl) (by kernel_rfl) (by kernel_rfl) (fun _ _ _ h => h) (Or.inl ⟨by rfl, ?_⟩) ⟨fd0, fd1⟩ ?_
          rotate_left 1
          · intro w hSw
            obtain ⟨hSw0, hSw1⟩ := hSw
            go_simp
            first
              | done
              | with_reducible rfl
              | rw [if_neg (by omega)]
          try simp only [Act.put, List.setIfInBounds_toArray, List.set_cons_zero, List.set_cons_succ]
          refine wpAnyH_take (i := 5) (oi := { dst := some 103, op := Op.move (Operand.tmp 12), type := 76, pos := "types.go:330", after := #[], guard := none }) (v := ?_) rfl (by kernel_rfl) (by kernel_rfl) (by kernel_rfl) (fun _ _ _ h => h) (Or.inl ⟨by rfl, ?_⟩) ⟨fd0, fd1⟩ ?_
          rotate_left 1
          · intro w hSw
            obtain ⟨hSw0, hSw1⟩ := hSw
            go_simp
            first
              | done
              | with_reducible rfl
              | rw [if_neg (by omega)]
          try simp only [Act.put, List.setIfInBounds_toArray, List.set_cons_zero, List.set_cons_succ]
          refine wpAnyH_take (i := 6) (oi := { dst := some 104, op := Op.move (Operand.tmp 13), type := 3, pos := "types.go:330", after := #[], guard := none }) (v := ?_) rfl (by kernel_rfl) (by kernel_rfl) (by kernel_rfl) (fun _ _ _ h => h) (Or.inl ⟨by rfl, ?_⟩) ⟨fd0, fd1⟩ ?_
          rotate_left 1
          · intro w hSw
            obtain ⟨hSw0, hSw1⟩ := hSw
            go_simp
            first
              | done
              | with_reducible rfl
              | rw [if_neg (by omega)]
          try simp only [Act.put, List.setIfInBounds_toArray, List.set_cons_zero, List.set_cons_succ]
          refine wpAnyH_take (i := 7) (oi := { dst := some 105, op := Op.indexAddr 76 (Operand.tmp 103) (Operand.tmp 104), type := 0, pos := "types.go:330", after := #[{ on := 5, ground := Ground.data }, { on := 6, ground := Ground.data }], guard := none }) (v := .pointer (some ⟨b6, o6 + j, none⟩)) rfl (by kernel_rfl) (by kernel_rfl) (by kernel_rfl) (fun _ _ _ h => h) (Or.inl ⟨by rfl, ?_⟩) ⟨fd0, fd1⟩ ?_
          · intro w hSw
            go_simp
            first | done | (intro hc; omega) | rw [if_pos (by omega)]
          try simp only [Act.put, List.setIfInBounds_toArray, List.set_cons_zero, List.set_cons_succ]
          refine wpAnyH_take (i := 8) (oi := { dst := some 106, op := Op.load 22 (Operand.tmp 105), type := 22, pos := "types.go:330", after := #[{ on := 7, ground := Ground.data }], guard := none }) (v := ?_) rfl (by kernel_rfl) (by kernel_rfl) (by kernel_rfl) (fun _ _ _ h => h) (Or.inl ⟨by rfl, ?_⟩) ⟨fd0, fd1⟩ ?_
          rotate_left 1
          · intro w hSw
            obtain ⟨hSw0, hSw1⟩ := hSw
            go_simp
            first
              | done
              | with_reducible rfl
              | rw [if_neg (by omega)]
          try simp only [Act.put, List.setIfInBounds_toArray, List.set_cons_zero, List.set_cons_succ]
          refine wpAnyH_ready (rs := [9]) (by kernel_rfl) (by simp) ?_
          refine AllReadyH.cons (o := { dst := some 107, op := Op.call { callee := Callee.value (Operand.func 38), args := #[Operand.tmp 98, Operand.tmp 102, Operand.tmp 106], argTypes := #[38, 22, 22] }, type := 39, pos := "types.go:330", after := #[{ on := 0, ground := Ground.data }, { on := 4, ground := Ground.data }, { on := 8, ground := Ground.data }], guard := none }) rfl (fun K hK => ?_) AllReadyH.nil
          go_simp
          go_at_call 38
          refine (HIH.out _ S' c' bs' e' xA xc xs yA yc ys hxN hx5 hy5 hxb hbc hxc hyc HFX.out HFY.out HVX.out HVY.out hRp.out (unhide HSd) (unhide HXd) (unhide HYd)).mono ?_
          rintro e w509 ⟨A9, c9, bs9, he9, hb9, hp9⟩
          rw [hmm] at he9 hp9
          subst he9
          have HB9 := hide ((unhide HBd).trans (hb9.mono (unhide HBd).size))
          have HP9 := hide (owns_below (unhide HPd) hb9)
          have HO9 := hide (owns_below (unhide HOd) hb9)
          have HK9 := Lib.hid (HKd1.out.below hb9)
          have HJ9 := Lib.hid (HKd2.out.below hb9)
          have f9 := (hb9.cell (p := ⟨b5, o5 + j, none⟩) hk5).trans fd0
          have f8 := (hb9.cell (p := ⟨b6, o6 + j, none⟩) hk6).trans fd1
          clear hp9
          clear hb9 HBd HPd HOd HKd1 HKd2 HSd HXd HYd
          try dsimp only
          refine hK.out _ _ ⟨f9, f8⟩ (fun _ => ?_)
          clear hK K
          try simp only [Act.put, List.setIfInBounds_toArray, List.set_cons_zero, List.set_cons_succ]
          refine wpAnyH_take (i := 10) (oi := { dst := some 97, op := Op.move (Operand.tmp 107), type := 39, pos := "types.go:330", after := #[{ on := 9, ground := Ground.data }], guard := none }) (v := ?_) rfl (by kernel_rfl) (by kernel_rfl) (by kernel_rfl) (fun _ _ _ h => h) (Or.inl ⟨by rfl, ?_⟩) ⟨f9, f8⟩ ?_
          rotate_left 1
          · intro w hSw
            obtain ⟨hSw0, hSw1⟩ := hSw
            go_simp
            first
              | done
              | with_reducible rfl
              | rw [if_neg (by omega)]
          try simp only [Act.put, List.setIfInBounds_toArray, List.set_cons_zero, List.set_cons_succ]
          refine wpAnyH_take (i := 11) (oi := { dst := some 108, op := Op.extract (Operand.tmp 97) 0, type := 38, pos := "types.go:330", after := #[{ on := 10, ground := Ground.data }], guard := none }) (v := ?_) rfl (by kernel_rfl) (by kernel_rfl) (by kernel_rfl) (fun _ _ _ h => h) (Or.inl ⟨by rfl, ?_⟩) ⟨f9, f8⟩ ?_
          rotate_left 1
          · intro w hSw
            obtain ⟨hSw0, hSw1⟩ := hSw
            go_simp
            first
              | done
              | with_reducible rfl
              | rw [if_neg (by omega)]
          try simp only [Act.put, List.setIfInBounds_toArray, List.set_cons_zero, List.set_cons_succ]
          refine wpAnyH_take (i := 12) (oi := { dst := some 109, op := Op.extract (Operand.tmp 97) 1, type := 4, pos := "types.go:330", after := #[{ on := 10, ground := Ground.data }, { on := 13, ground := Ground.gcOnly Departure.lateStores }], guard := none }) (v := ?_) rfl (by kernel_rfl) (by kernel_rfl) (by kernel_rfl) (fun _ _ _ h => h) (Or.inl ⟨by rfl, ?_⟩) ⟨f9, f8⟩ ?_
          rotate_left 1
          · intro w hSw
            obtain ⟨hSw0, hSw1⟩ := hSw
            go_simp
            first
              | done
              | with_reducible rfl
              | rw [if_neg (by omega)]
          try simp only [Act.put, List.setIfInBounds_toArray, List.set_cons_zero, List.set_cons_succ]
          refine wpAnyH_take (i := 13) (oi := { dst := some 0, op := Op.assign (Operand.tmp 108), type := 38, pos := "types.go:330", after := #[{ on := 11, ground := Ground.data }, { on := 9, ground := Ground.chain }, { on := 0, ground := Ground.phase }, { on := 1, ground := Ground.phase }, { on := 2, ground := Ground.phase }, { on := 3, ground := Ground.phase }, { on := 4, ground := Ground.phase }, { on := 5, ground := Ground.phase }, { on := 6, ground := Ground.phase }, { on := 7, ground := Ground.phase }, { on := 8, ground := Ground.phase }, { on := 9, ground := Ground.phase }, { on := 10, ground := Ground.phase }, { on := 11, ground := Ground.phase }, { on := 12, ground := Ground.textOnly Departure.lateStores }], guard := none }) (v := ?_) rfl (by kernel_rfl) (by kernel_rfl) (by kernel_rfl) (fun _ _ _ h => h) (Or.inl ⟨by rfl, ?_⟩) ⟨f9, f8⟩ ?_
          rotate_left 1
          · intro w hSw
            obtain ⟨hSw0, hSw1⟩ := hSw
            go_simp
            first
              | done
              | with_reducible rfl
              | rw [if_neg (by omega)]
          try simp only [Act.put, List.setIfInBounds_toArray, List.set_cons_zero, List.set_cons_succ]
          refine wpAnyH_take (i := 14) (oi := { dst := some 14, op := Op.assign (Operand.tmp 109), type := 4, pos := "types.go:330", after := #[{ on := 12, ground := Ground.data }, { on := 13, ground := Ground.chain }, { on := 0, ground := Ground.phase }, { on := 1, ground := Ground.phase }, { on := 2, ground := Ground.phase }, { on := 3, ground := Ground.phase }, { on := 4, ground := Ground.phase }, { on := 5, ground := Ground.phase }, { on := 6, ground := Ground.phase }, { on := 7, ground := Ground.phase }, { on := 8, ground := Ground.phase }, { on := 9, ground := Ground.phase }, { on := 10, ground := Ground.phase }, { on := 11, ground := Ground.phase }, { on := 12, ground := Ground.phase }, { on := 13, ground := Ground.phase }], guard := none }) (v := ?_) rfl (by kernel_rfl) (by kernel_rfl) (by kernel_rfl) (fun _ _ _ h => h) (Or.inl ⟨by rfl, ?_⟩) ⟨f9, f8⟩ ?_
          rotate_left 1
          · intro w hSw
            obtain ⟨hSw0, hSw1⟩ := hSw
            go_simp
            first
              | done
              | with_reducible rfl
              | rw [if_neg (by omega)]
          try simp only [Act.put, List.setIfInBounds_toArray, List.set_cons_zero, List.set_cons_succ]
          refine wpAnyH_done (by kernel_rfl) ?_ _
          refine NoPanic.normal ?_
          go_wp2_with fail
          go_ret2
          exact RmPost.no HMF.out (unhide HB9)
        · have HE2 : Hid (mtch ((kd, num, (kn : Int)) :: r) ((kd, num, (kn : Int)) :: r2) e0 = mtch (lsFlat (ls.drop (j + 1))) (lsFlat (ls2.drop (j + 1))) (finE xs ys e')) := Lib.hid (by rw [HE1.out, hmm, Bool.true_and])
          have HG2 := Lib.hid (HG1.out hmm)
          go_wp2_with fail
          have fd0 : Hid (wr.drew.cell? ⟨b5, o5 + j, none⟩ = some (.slice xA xs.length xc)) := z0
          have fd1 : Hid (wr.drew.cell? ⟨b6, o6 + j, none⟩ = some (.slice yA ys.length yc)) := z1
          have HBd : Hid (Below w.heap.size w wr.drew) := below_drew hB.out
          have HSd : Hid (InB wr.drew S' bs') := ⟨hSb.out.1.drew, hSb.out.2⟩
          have HXd : Hid (InC wr.drew xA (xs.flatMap ndCells)) := (unhide HIX).drew
          have HYd : Hid (InC wr.drew yA (ys.flatMap ndCells)) := (unhide HIY).drew
          have HPd : Hid (wr.drew.ownsRow w.heap.size 22 1 (.slice (some ⟨b5, o5, none⟩) ls.length c1) ls.length (ls.map tsV)) := hP.out.drew
          have HOd : Hid (wr.drew.ownsRow w.heap.size 22 1 (.slice (some ⟨b6, o6, none⟩) ls2.length c2) ls2.length (ls2.map tsV)) := hO.out.drew
          have HKd1 : Hid (Kids wr.drew 0 ls) := ⟨hK1.out.full, hK1.out.inC, hK1.out.cap⟩
          have HKd2 : Hid (Kids wr.drew 0 ls2) := ⟨hK2.out.full, hK2.out.inC, hK2.out.cap⟩
          have hk5 : b5 < wr.drew.heap.size := hb5
          have hk6 : b6 < wr.drew.heap.size := hb6
          clear hP hO hK1 hK2 hB hSb HIX HIY
          refine wp_region_noPanic ?_
          refine wp_region_held_drew (S := fun W => W.cell? ⟨b5, o5 + j, none⟩ = some (.slice xA xs.length xc) ∧ W.cell? ⟨b6, o6 + j, none⟩ = some (.slice yA ys.length yc)) (by kernel_rfl) ⟨fd0, fd1⟩ (fun _ => ?_)
          generalize wr.drew = wd at *
          try simp only [Act.put, List.setIfInBounds_toArray, List.set_cons_zero, List.set_cons_succ]
          refine wpAnyH_take (i := 0) (oi := { dst := some 98, op := Op.move (Operand.tmp 0), type := 38, pos := "types.go:330", after := #[], guard := none }) (v := ?_) rfl (by kernel_rfl) (by kernel_rfl) (by kernel_rfl) (fun _ _ _ h => h) (Or.inl ⟨by rfl, ?_⟩) ⟨fd0, fd1⟩ ?_
          rotate_left 1
          · intro w hSw
            obtain ⟨hSw0, hSw1⟩ := hSw
            go_simp
            first
              | done
              | with_reducible rfl
              | rw [if_neg (by omega)]
          try simp only [Act.put, List.setIfInBounds_toArray, List.set_cons_zero, List.set_cons_succ]
          refine wpAnyH_take (i := 1) (oi := { dst := some 99, op := Op.move (Operand.tmp 11), type := 76, pos := "types.go:330", after := #[], guard := none }) (v := ?_) rfl (by kernel_rfl) (by kernel_rfl) (by kernel_rfl) (fun _ _ _ h => h) (Or.inl ⟨by rfl, ?_⟩) ⟨fd0, fd1⟩ ?_
          rotate_left 1
          · intro w hSw
            obtain ⟨hSw0, hSw1⟩ := hSw
            go_simp
            first
              | done
              | with_reducible rfl
              | rw [if_neg (by omega)]
          try simp only [Act.put, List.setIfInBounds_toArray, List.set_cons_zero, List.set_cons_succ]
          refine wpAnyH_take (i := 2) (oi := { dst := some 100, op := Op.move (Operand.tmp 13), type := 3, pos := "types.go:330", after := #[], guard := none }) (v := ?_) rfl (by kernel_rfl) (by kernel_rfl) (by kernel_rfl) (fun _ _ _ h => h) (Or.inl ⟨by rfl, ?_⟩) ⟨fd0, fd1⟩ ?_
          rotate_left 1
          · intro w hSw
            obtain ⟨hSw0, hSw1⟩ := hSw
            go_simp
            first
              | done
              | with_reducible rfl
              | rw [if_neg (by omega)]
          try simp only [Act.put, List.setIfInBounds_toArray, List.set_cons_zero, List.set_cons_succ]
          refine wpAnyH_take (i := 3) (oi := { dst := some 101, op := Op.indexAddr 76 (Operand.tmp 99) (Operand.tmp 100), type := 0, pos := "types.go:330", after := #[{ on := 1, ground := Ground.data }, { on := 2, ground := Ground.data }], guard := none }) (v := .pointer (some ⟨b5, o5 + j, none⟩)) rfl (by kernel_rfl) (by kernel_rfl) (by kernel_rfl) (fun _ _ _ h => h) (Or.inl ⟨by rfl, ?_⟩) ⟨fd0, fd1⟩ ?_
          · intro w hSw
            go_simp
            first | done | (intro hc; omega) | rw [if_pos (by omega)]
          try simp only [Act.put, List.setIfInBounds_toArray, List.set_cons_zero, List.set_cons_succ]
          refine wpAnyH_take (i := 4) (oi := { dst := some 102, op := Op.load 22 (Operand.tmp 101), type := 22, pos := "types.go:330", after := #[{ on := 3, ground := Ground.data }], guard := none }) (v := ?_) rfl (by kernel_rfl) (by kernel_rfl) (by kernel_rfl) (fun _ _ _ h => h) (Or.inl ⟨by rfl, ?_⟩) ⟨fd0, fd1⟩ ?_
          rotate_left 1
          · intro w hSw
            obtain ⟨hSw0, hSw1⟩ := hSw
            go_simp
            first
              | done
              | with_reducible rfl
              | rw [if_neg (by omega)]
          try simp only [Act.put, List.setIfInBounds_toArray, List.set_cons_zero, List.set_cons_succ]
          refine wpAnyH_take (i := 5) (oi := { dst := some 103, op := Op.move (Operand.tmp 12), type := 76, pos := "types.go:330", after := #[], guard := none }) (v := ?_) rfl (by kernel_rfl) (by kernel_rfl) (by kernel_rfl) (fun _ _ _ h => h) (Or.inl ⟨by rfl, ?_⟩) ⟨fd0, fd1⟩ ?_
          rotate_left 1
          · intro w hSw
            obtain ⟨hSw0, hSw1⟩ := hSw
            go_simp
            first
              | done
              | with_reducible rfl
              | rw [if_neg (by omega)]
          try simp only [Act.put, List.setIfInBounds_toArray, List.set_cons_zero, List.set_cons_succ]
          refine wpAnyH_take (i := 6) (oi := { dst := some 104, op := Op.move (Operand.tmp 13), type := 3, pos := "types.go:330", after := #[], guard := none }) (v := ?_) rfl (by kernel_rfl) (by kernel_rfl) (by kernel_rfl) (fun _ _ _ h => h) (Or.inl ⟨by rfl, ?_⟩) ⟨fd0, fd1⟩ ?_
          rotate_left 1
          · intro w hSw
            obtain ⟨hSw0, hSw1⟩ := hSw
            go_simp
            first
              | done
              | with_reducible rfl
              | rw [if_neg (by omega)]
          try simp only [Act.put, List.setIfInBounds_toArray, List.set_cons_zero, List.set_cons_succ]
          refine wpAnyH_take (i := 7) (oi := { dst := some 105, op := Op.indexAddr 76 (Operand.tmp 103) (Operand.tmp 104), type := 0, pos := "types.go:330", after := #[{ on := 5, ground := Ground.data }, { on := 6, ground := Ground.data }], guard := none }) (v := .pointer (some ⟨b6, o6 + j, none⟩)) rfl (by kernel_rfl) (by kernel_rfl) (by kernel_rfl) (fun _ _ _ h => h) (Or.inl ⟨by rfl, ?_⟩) ⟨fd0, fd1⟩ ?_
          · intro w hSw
            go_simp
            first | done | (intro hc; omega) | rw [if_pos (by omega)]
          try simp only [Act.put, List.setIfInBounds_toArray, List.set_cons_zero, List.set_cons_succ]
          refine wpAnyH_take (i := 8) (oi := { dst := some 106, op := Op.load 22 (Operand.tmp 105), type := 22, pos := "types.go:330", after := #[{ on := 7, ground := Ground.data }], guard := none }) (v := ?_) rfl (by kernel_rfl) (by kernel_rfl) (by kernel_rfl) (fun _ _ _ h => h) (Or.inl ⟨by rfl, ?_⟩) ⟨fd0, fd1⟩ ?_
          rotate_left 1
          · intro w hSw
            obtain ⟨hSw0, hSw1⟩ := hSw
            go_simp
            first
              | done
              | with_reducible rfl
              | rw [if_neg (by omega)]
          try simp only [Act.put, List.setIfInBounds_toArray, List.set_cons_zero, List.set_cons_succ]
          refine wpAnyH_ready (rs := [9]) (by kernel_rfl) (by simp) ?_
          refine AllReadyH.cons (o := { dst := some 107, op := Op.call { callee := Callee.value (Operand.func 38), args := #[Operand.tmp 98, Operand.tmp 102, Operand.tmp 106], argTypes := #[38, 22, 22] }, type := 39, pos := "types.go:330", after := #[{ on := 0, ground := Ground.data }, { on := 4, ground := Ground.data }, { on := 8, ground := Ground.data }], guard := none }) rfl (fun K hK => ?_) AllReadyH.nil
          go_simp
          go_at_call 38
          refine (HIH.out _ S' c' bs' e' xA xc xs yA yc ys hxN hx5 hy5 hxb hbc hxc hyc HFX.out HFY.out HVX.out HVY.out hRp.out (unhide HSd) (unhide HXd) (unhide HYd)).mono ?_
          rintro e w510 ⟨A9, c9, bs9, he9, hb9, hp9⟩
          rw [hmm] at he9 hp9
          subst he9
          have HB9 := hide ((unhide HBd).trans (hb9.mono (unhide HBd).size))
          have HP9 := hide (owns_below (unhide HPd) hb9)
          have HO9 := hide (owns_below (unhide HOd) hb9)
          have HK9 := Lib.hid (HKd1.out.below hb9)
          have HJ9 := Lib.hid (HKd2.out.below hb9)
          have f9 := (hb9.cell (p := ⟨b5, o5 + j, none⟩) hk5).trans fd0
          have f8 := (hb9.cell (p := ⟨b6, o6 + j, none⟩) hk6).trans fd1
          obtain ⟨hs9, hr9, hl9, hc9⟩ := hp9 rfl
          have HS9 := hide hs9
          have HR9 := Lib.hid hr9
          clear hs9 hr9 hp9
          clear hb9 HBd HPd HOd HKd1 HKd2 HSd HXd HYd
          try dsimp only
          refine hK.out _ _ ⟨f9, f8⟩ (fun _ => ?_)
          clear hK K
          try simp only [Act.put, List.setIfInBounds_toArray, List.set_cons_zero, List.set_cons_succ]
          refine wpAnyH_take (i := 10) (oi := { dst := some 97, op := Op.move (Operand.tmp 107), type := 39, pos := "types.go:330", after := #[{ on := 9, ground := Ground.data }], guard := none }) (v := ?_) rfl (by kernel_rfl) (by kernel_rfl) (by kernel_rfl) (fun _ _ _ h => h) (Or.inl ⟨by rfl, ?_⟩) ⟨f9, f8⟩ ?_
          rotate_left 1
          · intro w hSw
            obtain ⟨hSw0, hSw1⟩ := hSw
            go_simp
            first
              | done
              | with_reducible rfl
              | rw [if_neg (by omega)]
          try simp only [Act.put, List.setIfInBounds_toArray, List.set_cons_zero, List.set_cons_succ]
          refine wpAnyH_take (i := 11) (oi := { dst := some 108, op := Op.extract (Operand.tmp 97) 0, type := 38, pos := "types.go:330", after := #[{ on := 10, ground := Ground.data }], guard := none }) (v := ?_) rfl (by kernel_rfl) (by kernel_rfl) (by kernel_rfl) (fun _ _ _ h => h) (Or.inl ⟨by rfl, ?_⟩) ⟨f9, f8⟩ ?_
          rotate_left 1
          · intro w hSw
            obtain ⟨hSw0, hSw1⟩ := hSw
            go_simp
            first
              | done
              | with_reducible rfl
              | rw [if_neg (by omega)]
          try simp only [Act.put, List.setIfInBounds_toArray, List.set_cons_zero, List.set_cons_succ]
          refine wpAnyH_take (i := 12) (oi := { dst := some 109, op := Op.extract (Operand.tmp 97) 1, type := 4, pos := "types.go:330", after := #[{ on := 10, ground := Ground.data }, { on := 13, ground := Ground.gcOnly Departure.lateStores }], guard := none }) (v := ?_) rfl (by kernel_rfl) (by kernel_rfl) (by kernel_rfl) (fun _ _ _ h => h) (Or.inl ⟨by rfl, ?_⟩) ⟨f9, f8⟩ ?_
          rotate_left 1
          · intro w hSw
            obtain ⟨hSw0, hSw1⟩ := hSw
            go_simp
            first
              | done
              | with_reducible rfl
              | rw [if_neg (by omega)]
          try simp only [Act.put, List.setIfInBounds_toArray, List.set_cons_zero, List.set_cons_succ]
          refine wpAnyH_take (i := 13) (oi := { dst := some 0, op := Op.assign (Operand.tmp 108), type := 38, pos := "types.go:330", after := #[{ on := 11, ground := Ground.data }, { on := 9, ground := Ground.chain }, { on := 0, ground := Ground.phase }, { on := 1, ground := Ground.phase }, { on := 2, ground := Ground.phase }, { on := 3, ground := Ground.phase }, { on := 4, ground := Ground.phase }, { on := 5, ground := Ground.phase }, { on := 6, ground := Ground.phase }, { on := 7, ground := Ground.phase }, { on := 8, ground := Ground.phase }, { on := 9, ground := Ground.phase }, { on := 10, ground := Ground.phase }, { on := 11, ground := Ground.phase }, { on := 12, ground := Ground.textOnly Departure.lateStores }], guard := none }) (v := ?_) rfl (by kernel_rfl) (by kernel_rfl) (by kernel_rfl) (fun _ _ _ h => h) (Or.inl ⟨by rfl, ?_⟩) ⟨f9, f8⟩ ?_
          rotate_left 1
          · intro w hSw
            obtain ⟨hSw0, hSw1⟩ := hSw
            go_simp
            first
              | done
              | with_reducible rfl
              | rw [if_neg (by omega)]
          try simp only [Act.put, List.setIfInBounds_toArray, List.set_cons_zero, List.set_cons_succ]
          refine wpAnyH_take (i := 14) (oi := { dst := some 14, op := Op.assign (Operand.tmp 109), type := 4, pos := "types.go:330", after := #[{ on := 12, ground := Ground.data }, { on := 13, ground := Ground.chain }, { on := 0, ground := Ground.phase }, { on := 1, ground := Ground.phase }, { on := 2, ground := Ground.phase }, { on := 3, ground := Ground.phase }, { on := 4, ground := Ground.phase }, { on := 5, ground := Ground.phase }, { on := 6, ground := Ground.phase }, { on := 7, ground := Ground.phase }, { on := 8, ground := Ground.phase }, { on := 9, ground := Ground.phase }, { on := 10, ground := Ground.phase }, { on := 11, ground := Ground.phase }, { on := 12, ground := Ground.phase }, { on := 13, ground := Ground.phase }], guard := none }) (v := ?_) rfl (by kernel_rfl) (by kernel_rfl) (by kernel_rfl) (fun _ _ _ h => h) (Or.inl ⟨by rfl, ?_⟩) ⟨f9, f8⟩ ?_
          rotate_left 1
          · intro w hSw
            obtain ⟨hSw0, hSw1⟩ := hSw
            go_simp
            first
              | done
              | with_reducible rfl
              | rw [if_neg (by omega)]
          try simp only [Act.put, List.setIfInBounds_toArray, List.set_cons_zero, List.set_cons_succ]
          refine wpAnyH_done (by kernel_rfl) ?_ _
          refine NoPanic.normal ?_
          have HC2 : Hid (bs9.length + (lsFlat (ls.drop (j + 1))).length + 1 ≤ bs.length + n) := Lib.hid (by have := HC1.out; omega)
          go_wp2_with fail
          go_roundw
          case rel => exact ⟨j + 1, A9, c9, bs9, finE xs ys e', by go_num, by omega, rfl, hc9, HC2.out, unhide HS9, HR9.out, HE2.out, HG2.out, unhide HP9, unhide HO9, HK9.out, HJ9.out, unhide HB9⟩
          case measure => simp [intOf]; omega
      · have hd1 : ls.drop j = [] := List.drop_eq_nil_of_le (by omega)
        have HT : Hid (mtch ((kd, num, (kn : Int)) :: r) ((kd, num, (kn : Int)) :: r2) e0 = true) := Lib.hid (by
          rw [hE.out, hd1]
          show mtch [] _ _ = true
          unfold mtch; rfl)
        have HG9 : Hid (finE ((kd, num, (kn : Int)) :: r) ((kd, num, (kn : Int)) :: r2) e0 = e') := Lib.hid (by
          rw [hG.out, hd1]
          show finE [] _ _ = e'
          unfold finE; rfl)
        have HCB : Hid (bs'.length ≤ bs.length + ((kd, num, (kn : Int)) :: r).length) := Lib.hid (by have := hC.out; have h3 := HN.out; rw [List.length_cons]; omega)
        clear hd1 hE hG hC
        go_wp2_with fail
        go_ret2
        exact ⟨S', c', bs', by rw [HT.out]; rfl, hB.out, fun _ => ⟨hSb.out, by rw [HG9.out]; exact hRp.out, HCB.out, hbc⟩⟩
  · have HMF : Hid (mtch ((kd, num, (kn : Int)) :: r) ((kd', num', (kn' : Int)) :: r2) e0 = false) := Lib.hid (by
      rw [mtch_node HKD.out, decide_eq_false (fun q => he ⟨congrArg (fun z => z.1) q, congrArg (fun z => z.2.1) q, congrArg (fun z => z.2.2) q⟩)]; rfl)
    have hcase : (kd == kd') = false ∨ ((kd == kd') = true ∧ (num == num') = false) ∨ ((kd == kd') = true ∧ (num == num') = true ∧ ((kn : Int) == (kn' : Int)) = false) := by
      by_cases q1 : kd = kd'
      · by_cases q2 : num = num'
        · by_cases q3 : (kn : Int) = (kn' : Int)
          · exact absurd ⟨q1, q2, q3⟩ he
          · exact .inr (.inr ⟨by simp [q1], by simp [q2], beq_eq_false_iff_ne.2 q3⟩)
        · exact .inr (.inl ⟨by simp [q1], by simp [q2]⟩)
      · exact .inl (by simp [q1])
    clear he
    rcases hcase with g2 | ⟨g2, g3⟩ | ⟨g2, g3, g4⟩
    all_goals
      go_wp2_with fail
      go_quiet (fail)
      go_wp2_with fail
      go_ret2
      exact RmPost.no HMF.out (below_drewN (Below.refl _ _) nq)

theorem rmatch_any : ∀ N, RmCon N := by
  intro N
  induction N with
  | zero =>
    intro w S cs bs e0 A ca ts B cb us hN _ _ _ _ _ _ hf
    have : ts = [] := List.eq_nil_of_length_eq_zero (by omega)
    subst this
    exact absurd (full_nil hf) (by omega)
  | succ N ih =>
    intro w S cs bs e0 A ca ts B cb us hN ht hu hbl hcs hca hcb hf hf2 hv hv2 hR hS hA hB
    cases ts with
    | nil => exact absurd (full_nil hf) (by omega)
    | cons t r =>
      cases us with
      | nil => exact absurd (full_nil hf2) (by omega)
      | cons u r2 =>
        have h1 := hv t (by simp)
        have h2 := hv2 u (by simp)
        obtain ⟨k0, k9⟩ := vN_kids h1
        obtain ⟨l0, l9⟩ := vN_kids h2
        have hf' := full_cons hf
        have hf2' := full_cons hf2
        by_cases hk : t.1 = 1
        · have hz := vN_var h1 hk
          rw [hz] at hf'
          have hr := full_zero (by simpa using hf')
          subst hr
          obtain ⟨kd, num, kids⟩ := t
          simp only at hk hz
          subst hk; subst hz
          exact rmatch_var w S cs bs e0 A ca num B cb _ (u :: r2) hu hbl hcs rfl hf2 hR hS hA hB
        · obtain ⟨kd, num, kids⟩ := t
          obtain ⟨kd', num', kids'⟩ := u
          simp only at k0 k9 l0 l9 hk hf' hf2'
          obtain ⟨kn, rfl⟩ := Int.eq_ofNat_of_zero_le k0
          obtain ⟨kn', rfl⟩ := Int.eq_ofNat_of_zero_le l0
          simp only [Int.toNat_natCast, Nat.zero_add] at hf' hf2'
          exact rmatch_node N ih w S cs bs e0 A ca kd num kn r B cb kd' num' kn' r2 _ _ rfl rfl (by simp at hN; omega) ht hu hbl hcs hca hcb hk hf' hf2' (by omega) (fun x hx => hv x (by simp [hx])) (fun x hx => hv2 x (by simp [hx])) hR hS hA hB

end Go.Proofs.YtcnanbmbdajcaaaDoor
