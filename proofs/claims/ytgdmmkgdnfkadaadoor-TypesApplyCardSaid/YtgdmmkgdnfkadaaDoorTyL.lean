/- TypesApply: Apply returns the specified type, and replaces all variables at the same time. Conditions: lists have a length. -/
import Derived.Test.YtgdmmkgdnfkadaaDoorTyG
import Derived.Test.YtgdmmkgdnfkadaaDoorTyK
import Derived.Test.YtgdmmkgdnfkadaaDoorTyN
import Derived.Test.YtgdmmkgdnfkadaaDoorTyAw
namespace Go.Proofs.YtgdmmkgdnfkadaaDoor
open Go.RowKit M

theorem binding_info : (Tryd.prog.info? 47).map (fun i => (i.zero, i.size, i.bytes)) = some (some (.agg #[.int .i64 0, .slice none 0 0]), 2, 32) := by kernel_rfl
theorem applyM_len (s : List Bd) (ts : List TN) : (applyM s ts).length ≤ 512 := by
  unfold applyM
  split
  · rename_i h
    simp only [Bool.and_eq_true] at h
    exact valT_len h.2.2
  · simp
theorem typ_2 (V : Nat) (hV : V ≤ 1000) : TypCon 2 V := typ_up 1 V (by decide) (by decide) hV (typ_one V hV)
theorem typ_3 (V : Nat) (hV : V ≤ 1000) : TypCon 3 V := typ_up 2 V (by decide) (by decide) hV (typ_2 V hV)
theorem typ_4 (V : Nat) (hV : V ≤ 1000) : TypCon 4 V := typ_up 3 V (by decide) (by decide) hV (typ_3 V hV)
theorem bd_one (bs : List BS) : ∀ u ∈ bs.flatMap bdCells, u.oneCell' = true := by
  intro u hu
  obtain ⟨t, _, h⟩ := List.mem_flatMap.1 hu
  simp [bdCells] at h
  rcases h with rfl | rfl <;> rfl
theorem InInts.drewN {w : World} {A : Option Addr} {n : Nat} (h : InInts w A n) (m : Nat) : InInts (w.drewN m) A n := h
theorem InB.drewN {w : World} {A : Option Addr} {bs : List BS} (h : InB w A bs) (m : Nat) : InB (w.drewN m) A bs := h
/-- the types of bindings lie in rows made behind block g -/
def TyRows (w : World) (g : Nat) (bs : List BS) : Prop := ∀ b ∈ bs, w.ownsRow (g + 1) 33 3 (tsV b.2) b.2.2.2.length (b.2.2.2.flatMap ndCells) ∧ b.2.2.2.length ≤ 1024
theorem TyRows.grown {w w' : World} {g : Nat} {bs : List BS} (h : TyRows w g bs) (hg : w.grownBy w' (some g)) : TyRows w' g bs :=
  fun b hb => ⟨owns_other (h b hb).1 hg (row_g (h b hb).1 (by omega)), (h b hb).2⟩
theorem TyRows.alloc {w : World} {g : Nat} {bs : List BS} (h : TyRows w g bs) (o : Obj) : TyRows (w.alloc o) g bs := fun b hb => ⟨(h b hb).1.alloc o, (h b hb).2⟩
theorem TyRows.row {w w' : World} {g : Nat} {bs : List BS} (h : TyRows w g bs) {base z n : Nat} {v : Value} {xs : List Value} (ho : w.ownsRow base 47 z v n xs) (hg : w.grownBy w' v.ownBlock) : TyRows w' g bs :=
  fun b hb => ⟨owns_other (h b hb).1 hg (fun k hk q => own_own_ne (h b hb).1 ho (by decide) k hk q), (h b hb).2⟩
theorem TyRows.cap {w : World} {g : Nat} {bs : List BS} (h : TyRows w g bs) : ∀ b ∈ bs, InC w b.2.1 (b.2.2.2.flatMap ndCells) ∧ b.2.2.2.length ≤ maxLen ∧ b.2.2.2.length ≤ b.2.2.1 := by
  intro b hb
  obtain ⟨h1, h2⟩ := h b hb
  refine ⟨InC.own h1, by unfold maxLen; omega, ?_⟩
  rcases h1.2 with ⟨q, hz⟩ | ⟨g', cap, cur, q, _, _, hc, _⟩
  · rw [hz]; exact Nat.zero_le _
  · injection q with q1 q2 q3
    rw [q3]; exact hc
theorem row_le {w : World} {b : Nat} {e : TypeId} {z n c : Nat} {A : Option Addr} {xs : List Value} (h : w.ownsRow b e z (.slice A n c) n xs) : n ≤ c := by
  rcases h.2 with ⟨q, hz⟩ | ⟨g', cap, cur, q, _, _, hc, _⟩
  · rw [hz]; exact Nat.zero_le _
  · injection q with q1 q2 q3
    rw [q3]; exact hc

set_option maxRecDepth 100000 in
set_option maxHeartbeats 12800000 in
theorem typesApply_any (w : World) (A : Option Addr) (n c : Nat) (bs : List BS) (hn : n = bs.length) (hl : n ≤ maxLen) (hA : InB w A bs) (T : Option Addr) (m cm : Nat) (ts : List TN) (hm : m = ts.length) (hml : m ≤ maxLen) (hmc : m ≤ cm) (hT : InC w T (ts.flatMap ndCells))
    (A1 : Option Addr) (n1 c1 : Nat) (h1 : InInts w A1 n1) (hn1 : n1 ≤ maxLen) (A2 : Option Addr) (n2 c2 : Nat) (h2 : InInts w A2 n2) (hn2 : n2 ≤ maxLen) :
    Calls Tryd.prog 8 #[.slice A n c, .slice T m cm, .slice A1 n1 c1, .slice A2 n2 c2] w fun e w' => e = .returned (.bool true) ∧ Below w.heap.size w w' := by
  have HA := hide hA
  have HT := hide hT
  have H1 := hide h1
  have H2 := hide h2
  have HN := Lib.hid hn
  have HL := Lib.hid hl
  have HM := Lib.hid hm
  have HML := Lib.hid hml
  have HN1 := Lib.hid hn1
  have HN2 := Lib.hid hn2
  clear hA hT h1 h2 hn hm hl hml hn1 hn2
  go_enter Tryd.func8, Tryd.ntmps8
  go_wp2_with fail
  refine (new_cho _ A1 n1 c1).mono ?_
  rintro e w1 ⟨rfl, hw1⟩
  have HC1 : Hid (CSt w1 w.heap.size A1 n1 c1) := by rw [hw1]; exact CSt.start (unhide H1)
  have HB1 : Hid (Below w.heap.size w w1) := by rw [hw1]; exact (Below.refl _ _).alloc (Nat.le_refl _) _
  clear hw1
  go_wp2_with fail
  go_loopw [10, 11] (fun v i wr => ∃ (j : Nat) (rs : List BS), i = .int .i64 j ∧ j ≤ 4 ∧ rs.length ≤ j ∧ Hid (wr.ownsRow w.heap.size 47 2 v rs.length (rs.flatMap bdCells)) ∧ Hid (TyRows wr w.heap.size rs) ∧ Hid (CSt wr w.heap.size A1 n1 c1) ∧ Hid (Below w.heap.size w wr)) (fun _ i _ => 4 - (intOf i).toNat)
  case atStart => exact ⟨0, [], rfl, by omega, by simp, World.ownsRow_nil _ _ _ _, fun b hb => by simp at hb, unhide HC1, unhide HB1⟩
  case round =>
    obtain ⟨j, rs, rfl, hj, hrs, hO, hTR, hC, hB⟩ := hrel
    obtain ⟨A3, c3, rfl⟩ := owns_form hO.out
    by_cases hlt : j < 4
    · have hge : ∀ k, (Value.slice A3 rs.length c3).ownBlock = some k → (some w.heap.size : Option Nat) ≠ some k := by
        intro k hk q
        injection q with q
        obtain ⟨i, B, hcb, _⟩ := hC.out
        exact own_blk_ne hO.out hcb (by decide) (by rw [hk, q])
      have HGE := hide hge
      clear hge
      go_wp2_with fail
      refine (next_st 3 3 rfl (by decide) (by decide) hC.out HN1.out).mono ?_
      rintro e w2 ⟨r, hr, rfl, hC2, hG2⟩
      have HC2 := hide hC2
      have HO2 := hide (owns_other hO.out hG2 (unhide HGE))
      have HT2 := hide (hTR.out.grown hG2)
      have HB2 := hide (below_grown hB.out hG2 (Nat.le_refl _) (Nat.le_refl _))
      clear hC2 hG2 hO hTR hB hC
      by_cases hr0 : 0 < r
      · have g1 : decide ((0 : Int) < (r : Int)) = true := decide_eq_true (by omega)
        go_wp2_with fail
        refine (typ_3 4 (by decide) 3 rfl w2 w.heap.size A1 n1 c1 (unhide HC2) HN1.out).mono ?_
        rintro e w3 ⟨v3, us, rfl, hO3, hT3, hC3, hG3⟩
        have hgl := (unhide HC2).lt
        have HC3 := hide hC3
        have hul : us.length ≤ 1024 := by have := hT3.2.1; omega
        obtain ⟨A5, c5, rfl⟩ := owns_form hO3
        have HU3 := hide (owns_base hO3 (show w.heap.size + 1 ≤ w2.heap.size by omega))
        have HO3 := hide (owns_other (unhide HO2) hG3 (unhide HGE))
        have HT3 := hide ((unhide HT2).grown hG3)
        have HB3 := hide (below_grown (unhide HB2) hG3 (Nat.le_refl _) (Nat.le_refl _))
        have hz3 := (unhide HB3).size
        obtain ⟨i0, hi0, hiz0, hiz1, hiz2⟩ := info_parts binding_info
        clear hC3 hG3 hO3 hT3 HO2 HT2 HB2 HC2
        go_wp2_with (at_builtin; refine wpList_app _ rfl _ _ 38 rfl w.heap.size 47 i0 _ 2 32 Tryd.underlying38 hi0 hiz0 hiz1 hiz2 rfl (by decide) _ _ _ rfl ((unhide HO3).alloc _) _ 1 1 [.int .i64 j, .slice A5 us.length c5] rfl rfl (new_in _ _ #[.int .i64 j, .slice A5 us.length c5]) (bd_one [((j : Int), A5, c5, us)]) (by unfold maxLen; omega) (by omega) (by simp; omega) ?_; intro v5 w5 hown5 hgrow5 _)
        have HB5 := hide (below_app ((unhide HB3).alloc hz3 _) ((unhide HO3).alloc _) hgrow5)
        have HT5 : Hid (TyRows w5 w.heap.size (rs ++ [((j : Int), A5, c5, us)])) := by
          show TyRows _ _ _
          have hq : TyRows w3 w.heap.size (rs ++ [((j : Int), A5, c5, us)]) := by
            intro b hb
            rcases List.mem_append.1 hb with hb | hb
            · exact unhide HT3 b hb
            · simp at hb; subst hb; exact ⟨unhide HU3, hul⟩
          exact (hq.alloc _).row ((unhide HO3).alloc _) hgrow5
        have HC5 : Hid (CSt w5 w.heap.size A1 n1 c1) := by
          show CSt _ _ _ _ _
          have hq := (unhide HC3).alloc (.cells #[.int .i64 j, .slice A5 us.length c5] 47)
          obtain ⟨ii, B, q1, q2, q3, q4⟩ := hq
          refine ⟨ii, B, Blk.grown q1 hgrow5 (fun q => own_blk_ne ((unhide HO3).alloc _) q1 (by decide) q.symm), q2, q3, q4.keep (Pr := (· < w.heap.size)) ⟨hgrow5.os, hgrow5.tape, hgrow5.output, hgrow5.size, fun k hk => hgrow5.block k (by simp; omega) (fun q => ?_)⟩ (fun b q => by omega)⟩
          have := ((unhide HO3).lt k q.symm).1
          omega
        have HO5 : Hid (w5.ownsRow w.heap.size 47 2 v5 (rs ++ [((j : Int), A5, c5, us)]).length ((rs ++ [((j : Int), A5, c5, us)]).flatMap bdCells)) := by
          show World.ownsRow _ _ _ _ _ _ _
          rw [List.length_append, List.flatMap_append]
          exact hown5
        clear hown5 hgrow5
        go_roundw
        case rel => exact ⟨j + 1, _, by go_num, by omega, by simp; omega, HO5, unhide HT5, unhide HC5, unhide HB5⟩
        case measure => simp [intOf]; omega
      · have g1 : decide ((0 : Int) < (r : Int)) = false := decide_eq_false (by omega)
        go_wp2_with fail
        go_roundw
        case rel => exact ⟨j + 1, rs, by go_num, by omega, by omega, unhide HO2, unhide HT2, unhide HC2, unhide HB2⟩
        case measure => simp [intOf]; omega
    · have HRI := hide (InC.own hO.out)
      have HRB : Hid (InB wr A3 rs) := ⟨InC.own hO.out, hTR.out.cap⟩
      have hzr := hB.out.size
      have HB0 := hide (unhide hB)
      have H20 := hide ((unhide H2).below hB.out)
      clear hO hTR hC hB HRI
      go_wp2_with fail
      refine (new_cho _ A2 n2 c2).mono ?_
      rintro e w4 ⟨rfl, hw4⟩
      have HC4 : Hid (CSt w4 wr.heap.size A2 n2 c2) := by rw [hw4]; exact CSt.start (unhide H20)
      have hb4 : Below wr.heap.size wr w4 := by rw [hw4]; exact (Below.refl _ _).alloc (Nat.le_refl _) _
      have HB4 := hide ((unhide HB0).trans (hb4.mono hzr))
      have HK4 := hide hb4
      clear hw4 hb4
      go_wp2_with fail
      refine (typ_4 4 (by decide) 4 rfl w4 wr.heap.size A2 n2 c2 (unhide HC4) HN2.out).mono ?_
      rintro e w5 ⟨v5, us, rfl, hO5, hT5, hC5, hG5⟩
      obtain ⟨A5, c5, rfl⟩ := owns_form hO5
      have hK5 := below_grown (unhide HK4) hG5 (Nat.le_refl _) (Nat.le_refl _)
      have HB5 := hide (below_grown (unhide HB4) hG5 hzr (Nat.le_refl _))
      have HRr := hide ((unhide HRB).below hK5)
      have HUu := hide (InC.own hO5)
      have HAa := hide ((unhide HA).below (unhide HB5))
      have HTt := hide ((unhide HT).below (unhide HB5))
      have hu5 : us.length ≤ 512 := by have := hT5.2.1; omega
      have huc := row_le hO5
      have HUV := Lib.hid (valT_of (by decide : 4 ≤ 64) hT5.1 hu5)
      have hrl4 : rs.length ≤ maxLen := by unfold maxLen; omega
      clear hO5 hT5 hC5 hG5 hK5 HRB HB0 HB4 HK4 HC4
      have hu9 : us.length ≤ maxLen := by unfold maxLen; omega
      go_wp2_with fail
      refine (make_any 1 1 _ none 0 0 [] rfl (by decide) (InC.nil _ _) (fun p hp => by simp at hp)).mono ?_
      rintro e w601 ⟨v601, rfl, ho601, hb601⟩
      have HB601 := hide ((unhide HB5).trans (hb601.mono (unhide HB5).size))
      have HR_601 := hide ((unhide HRr).below hb601)
      have HU_601 := hide ((unhide HUu).below hb601)
      have HA_601 := hide ((unhide HAa).below hb601)
      have HT_601 := hide ((unhide HTt).below hb601)
      clear HB5 HRr HUu HAa HTt
      have hm601 : mkT 1 1 (([] : List TS).map (·.2.2)) = [(1, 1, 0)] := rfl
      rw [hm601] at ho601
      clear hm601
      obtain ⟨B601, d601, rfl⟩ := owns_form ho601
      have hd601 := row_le ho601
      have HV601 := hide (InC.own ho601)
      clear ho601
      go_wp2_with fail
      refine (make_any 1 0 _ none 0 0 [] rfl (by decide) (InC.nil _ _) (fun p hp => by simp at hp)).mono ?_
      rintro e w602 ⟨v602, rfl, ho602, hb602⟩
      have HB602 := hide ((unhide HB601).trans (hb602.mono (unhide HB601).size))
      have HR_602 := hide ((unhide HR_601).below hb602)
      have HU_602 := hide ((unhide HU_601).below hb602)
      have HA_602 := hide ((unhide HA_601).below hb602)
      have HT_602 := hide ((unhide HT_601).below hb602)
      have HV1_602 := hide ((unhide HV601).below hb602)
      clear HB601 HR_601 HU_601 HA_601 HT_601 HV601
      have hm602 : mkT 1 0 (([] : List TS).map (·.2.2)) = [(1, 0, 0)] := rfl
      rw [hm602] at ho602
      clear hm602
      obtain ⟨B602, d602, rfl⟩ := owns_form ho602
      have hd602 := row_le ho602
      have HV602 := hide (InC.own ho602)
      clear ho602
      go_wp2_with fail
      have hal : Below w602.heap.size w602 (w602.alloc (.cells #[.int .i64 0, .slice B601 1 d601, .int .i64 1, .slice B602 1 d602] 47)) := (Below.refl _ _).alloc (Nat.le_refl _) _
      have HSW : Hid (InB (w602.alloc (.cells #[.int .i64 0, .slice B601 1 d601, .int .i64 1, .slice B602 1 d602] 47)) (some ⟨w602.heap.size, 0, none⟩) [((0 : Int), B601, d601, [((1 : Int), (1 : Int), (0 : Int))]), ((1 : Int), B602, d602, [((1 : Int), (0 : Int), (0 : Int))])]) := by
        refine ⟨new_in w602 47 #[.int .i64 0, .slice B601 1 d601, .int .i64 1, .slice B602 1 d602], fun b hb => ?_⟩
        simp at hb
        rcases hb with rfl | rfl
        · exact ⟨(unhide HV1_602).below hal, by unfold maxLen; simp, hd601⟩
        · exact ⟨(unhide HV602).below hal, by unfold maxLen; simp, hd602⟩
      have HB603 := hide ((unhide HB602).trans (hal.mono (unhide HB602).size))
      have HR_603 := hide ((unhide HR_602).below hal)
      have HU_603 := hide ((unhide HU_602).below hal)
      have HA_603 := hide ((unhide HA_602).below hal)
      have HT_603 := hide ((unhide HT_602).below hal)
      clear HB602 HR_602 HU_602 HA_602 HT_602
      generalize hwe : w602.alloc (.cells #[.int .i64 0, .slice B601 1 d601, .int .i64 1, .slice B602 1 d602] 47) = w603 at *
      clear hwe hal
      generalize hbe : w602.heap.size = bsw at *
      clear hbe
      refine (awake_any _).mono ?_
      rintro e w604 ⟨rfl, hb604⟩
      have HB604 := hide ((unhide HB603).trans (hb604.mono (unhide HB603).size))
      have HR_604 := hide ((unhide HR_603).below hb604)
      have HU_604 := hide ((unhide HU_603).below hb604)
      have HA_604 := hide ((unhide HA_603).below hb604)
      have HT_604 := hide ((unhide HT_603).below hb604)
      have HS_604 := hide ((unhide HSW).below hb604)
      clear HB603 HR_603 HU_603 HA_603 HT_603 HSW
      go_wp2_with fail
      refine (apply_any _ A n c bs HN.out HL.out (unhide HA_604) T m cm ts HM.out HML.out hmc (unhide HT_604)).mono ?_
      rintro e w605 ⟨v605, rfl, ho605, hb605⟩
      have HB605 := hide ((unhide HB604).trans (hb605.mono (unhide HB604).size))
      have HR_605 := hide ((unhide HR_604).below hb605)
      have HU_605 := hide ((unhide HU_604).below hb605)
      have HA_605 := hide ((unhide HA_604).below hb605)
      have HT_605 := hide ((unhide HT_604).below hb605)
      have HS_605 := hide ((unhide HS_604).below hb605)
      clear HB604 HR_604 HU_604 HA_604 HT_604 HS_604
      obtain ⟨B605, d605, rfl⟩ := owns_form ho605
      have hd605 := row_le ho605
      have HX605 := hide (InC.own ho605)
      clear ho605
      go_wp2_with fail
      refine (rapply_any _ A n c bs HN.out HL.out (unhide HA_605) T m cm ts HM.out HML.out (unhide HT_605)).mono ?_
      rintro e w606 ⟨v606, rfl, ho606, hb606⟩
      have HB606 := hide ((unhide HB605).trans (hb606.mono (unhide HB605).size))
      have HR_606 := hide ((unhide HR_605).below hb606)
      have HU_606 := hide ((unhide HU_605).below hb606)
      have HA_606 := hide ((unhide HA_605).below hb606)
      have HT_606 := hide ((unhide HT_605).below hb606)
      have HS_606 := hide ((unhide HS_605).below hb606)
      have HX_606 := hide ((unhide HX605).below hb606)
      clear HB605 HR_605 HU_605 HA_605 HT_605 HS_605 HX605
      obtain ⟨B606, d606, rfl⟩ := owns_form ho606
      have hd606 := row_le ho606
      have HY606 := hide (InC.own ho606)
      clear ho606
      go_wp2_with fail
      refine (equal_nodes (applyM (bs.map mb) ts) _ rfl (by have := applyM_len (bs.map mb) (ts); omega) _ _ _ _ _ (unhide HX_606) (unhide HY606)).mono ?_
      rintro e w607 ⟨rfl, q607, rfl⟩
      have HB607 := hide (below_drewN (unhide HB606) q607)
      have HR_607 := hide ((unhide HR_606).drewN q607)
      have HU_607 := hide ((unhide HU_606).drewN q607)
      have HA_607 := hide ((unhide HA_606).drewN q607)
      have HT_607 := hide ((unhide HT_606).drewN q607)
      have HS_607 := hide ((unhide HS_606).drewN q607)
      have HX_607 := hide ((unhide HX_606).drewN q607)
      have HY_607 := hide ((unhide HY606).drewN q607)
      clear HB606 HR_606 HU_606 HA_606 HT_606 HS_606 HX_606 HY606
      go_wp2_with fail
      refine (apply_any _ A3 rs.length c3 rs rfl hrl4 (unhide HR_607) A5 us.length c5 us rfl hu9 huc (unhide HU_607)).mono ?_
      rintro e w608 ⟨v608, rfl, ho608, hb608⟩
      have HB608 := hide ((unhide HB607).trans (hb608.mono (unhide HB607).size))
      have HR_608 := hide ((unhide HR_607).below hb608)
      have HU_608 := hide ((unhide HU_607).below hb608)
      have HA_608 := hide ((unhide HA_607).below hb608)
      have HT_608 := hide ((unhide HT_607).below hb608)
      have HS_608 := hide ((unhide HS_607).below hb608)
      clear HB607 HR_607 HU_607 HA_607 HT_607 HS_607
      obtain ⟨B608, d608, rfl⟩ := owns_form ho608
      have hd608 := row_le ho608
      have HX608 := hide (InC.own ho608)
      clear ho608
      go_wp2_with fail
      refine (rapply_any _ A3 rs.length c3 rs rfl hrl4 (unhide HR_608) A5 us.length c5 us rfl hu9 (unhide HU_608)).mono ?_
      rintro e w609 ⟨v609, rfl, ho609, hb609⟩
      have HB609 := hide ((unhide HB608).trans (hb609.mono (unhide HB608).size))
      have HR_609 := hide ((unhide HR_608).below hb609)
      have HU_609 := hide ((unhide HU_608).below hb609)
      have HA_609 := hide ((unhide HA_608).below hb609)
      have HT_609 := hide ((unhide HT_608).below hb609)
      have HS_609 := hide ((unhide HS_608).below hb609)
      have HX_609 := hide ((unhide HX608).below hb609)
      clear HB608 HR_608 HU_608 HA_608 HT_608 HS_608 HX608
      obtain ⟨B609, d609, rfl⟩ := owns_form ho609
      have hd609 := row_le ho609
      have HY609 := hide (InC.own ho609)
      clear ho609
      go_wp2_with fail
      refine (equal_nodes (applyM (rs.map mb) us) _ rfl (by have := applyM_len (rs.map mb) (us); omega) _ _ _ _ _ (unhide HX_609) (unhide HY609)).mono ?_
      rintro e w610 ⟨rfl, q610, rfl⟩
      have HB610 := hide (below_drewN (unhide HB609) q610)
      have HR_610 := hide ((unhide HR_609).drewN q610)
      have HU_610 := hide ((unhide HU_609).drewN q610)
      have HA_610 := hide ((unhide HA_609).drewN q610)
      have HT_610 := hide ((unhide HT_609).drewN q610)
      have HS_610 := hide ((unhide HS_609).drewN q610)
      have HX_610 := hide ((unhide HX_609).drewN q610)
      have HY_610 := hide ((unhide HY609).drewN q610)
      clear HB609 HR_609 HU_609 HA_609 HT_609 HS_609 HX_609 HY609
      go_wp2_with fail
      have HSL : Hid (([((0 : Int), B601, d601, [((1 : Int), (1 : Int), (0 : Int))]), ((1 : Int), B602, d602, [((1 : Int), (0 : Int), (0 : Int))])] : List BS).map mb = swapL) := rfl
      refine (apply_any _ (some ⟨bsw, 0, none⟩) 2 2 [((0 : Int), B601, d601, [((1 : Int), (1 : Int), (0 : Int))]), ((1 : Int), B602, d602, [((1 : Int), (0 : Int), (0 : Int))])] rfl (by unfold maxLen; omega) (unhide HS_610) A5 us.length c5 us rfl hu9 huc (unhide HU_610)).mono ?_
      rintro e w611 ⟨v611, rfl, ho611, hb611⟩
      have HB611 := hide ((unhide HB610).trans (hb611.mono (unhide HB610).size))
      have HR_611 := hide ((unhide HR_610).below hb611)
      have HU_611 := hide ((unhide HU_610).below hb611)
      have HA_611 := hide ((unhide HA_610).below hb611)
      have HT_611 := hide ((unhide HT_610).below hb611)
      have HS_611 := hide ((unhide HS_610).below hb611)
      clear HB610 HR_610 HU_610 HA_610 HT_610 HS_610
      obtain ⟨B611, d611, rfl⟩ := owns_form ho611
      have hd611 := row_le ho611
      have HX611 := hide (InC.own ho611)
      clear ho611
      go_wp2_with fail
      have hxl611 := applyM_len (([((0 : Int), B601, d601, [((1 : Int), (1 : Int), (0 : Int))]), ((1 : Int), B602, d602, [((1 : Int), (0 : Int), (0 : Int))])] : List BS).map mb) us
      refine (apply_any _ (some ⟨bsw, 0, none⟩) 2 2 [((0 : Int), B601, d601, [((1 : Int), (1 : Int), (0 : Int))]), ((1 : Int), B602, d602, [((1 : Int), (0 : Int), (0 : Int))])] rfl (by unfold maxLen; omega) (unhide HS_611) B611 _ d611 (applyM (([((0 : Int), B601, d601, [((1 : Int), (1 : Int), (0 : Int))]), ((1 : Int), B602, d602, [((1 : Int), (0 : Int), (0 : Int))])] : List BS).map mb) us) rfl (by unfold maxLen; omega) hd611 (unhide HX611)).mono ?_
      rintro e w612 ⟨v612, rfl, ho612, hb612⟩
      have HB612 := hide ((unhide HB611).trans (hb612.mono (unhide HB611).size))
      have HR_612 := hide ((unhide HR_611).below hb612)
      have HU_612 := hide ((unhide HU_611).below hb612)
      have HA_612 := hide ((unhide HA_611).below hb612)
      have HT_612 := hide ((unhide HT_611).below hb612)
      have HS_612 := hide ((unhide HS_611).below hb612)
      have HX_612 := hide ((unhide HX611).below hb612)
      clear HB611 HR_611 HU_611 HA_611 HT_611 HS_611 HX611
      obtain ⟨B612, d612, rfl⟩ := owns_form ho612
      have hd612 := row_le ho612
      have HY612 := hide (InC.own ho612)
      clear ho612
      go_wp2_with fail
      have hfin : applyM (([((0 : Int), B601, d601, [((1 : Int), (1 : Int), (0 : Int))]), ((1 : Int), B602, d602, [((1 : Int), (0 : Int), (0 : Int))])] : List BS).map mb) (applyM (([((0 : Int), B601, d601, [((1 : Int), (1 : Int), (0 : Int))]), ((1 : Int), B602, d602, [((1 : Int), (0 : Int), (0 : Int))])] : List BS).map mb) us) = us := by rw [HSL.out]; exact applyM_swap2 HUV.out
      have HFy := HY612
      rw [hfin] at HFy
      have HFL := Lib.hid (congrArg List.length hfin)
      clear hfin
      refine (equal_nodes2 us _ _ HFL.out rfl (by omega) _ _ _ _ _ (unhide HFy) (unhide HU_612)).mono ?_
      rintro e w613 ⟨rfl, q613, rfl⟩
      go_wp2_with fail
      go_ret
      exact ⟨rfl, below_drewN (unhide HB612) _⟩

end Go.Proofs.YtgdmmkgdnfkadaaDoor
