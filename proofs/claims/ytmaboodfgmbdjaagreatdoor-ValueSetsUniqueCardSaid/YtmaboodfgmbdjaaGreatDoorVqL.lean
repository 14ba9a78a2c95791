/- ValueSetsUnique returns true. Conditions: slices of numbers. -/
import Derived.Test.YtmaboodfgmbdjaaGreatDoorVpC
import Derived.Test.YtmaboodfgmbdjaaGreatDoorVgC
import Derived.Test.YtmaboodfgmbdjaaGreatDoorEvD
import Derived.BigRegion
namespace Go.Proofs.YtmaboodfgmbdjaaGreatDoor
open Go Go.RowKit VM

theorem vawake_run : Ev.valOf (Ev.runC Tryz.prog 100000 .leaf 11 []) = some (.bool true) := by kernel_rfl
theorem vawake_any (w : World) : Calls Tryz.prog 11 #[] w fun e w' => e = .returned (.bool true) ∧ Below w.heap.size w w' :=
  Ev.calls_of_run (P := Tryz.prog) (by kernel_rfl) (args := []) rfl vawake_run w

/-- what stays: the choices c and p, and the row of l -/
structure SU (w : World) (g0 g1 b1 : Nat) (a0 a1 : Option Addr) (n0 c0 n1 c1 : Nat) (Bl : Option Addr) (L cl : Nat) (l : List ByteArray) (W : World) : Prop where
  below : Below w.heap.size w W
  cc : CSt W g0 a0 n0 c0
  cp : CSt W g1 a1 n1 c1
  ol : W.ownsRow b1 27 1 (.slice Bl L cl) L (l.map Value.string)
  h0 : w.heap.size ≤ g0
  h01 : g0 < g1
  h1 : g0 < b1
  lg : ∀ k, (Value.slice Bl L cl).ownBlock = some k → k < g1
section
variable {w W W' : World} {g0 g1 b1 n0 c0 n1 c1 L cl : Nat} {a0 a1 Bl : Option Addr} {l : List ByteArray}
theorem SU.p (h : SU w g0 g1 b1 a0 a1 n0 c0 n1 c1 Bl L cl l W) (hc : CSt W' g1 a1 n1 c1) (hg : W.grownBy W' (some g1)) : SU w g0 g1 b1 a0 a1 n0 c0 n1 c1 Bl L cl l W' :=
  ⟨below_grown h.below hg (by have := h.h0; have := h.h01; omega) (Nat.le_refl _), h.cc.row hg (fun j hj => by have := Option.some.inj hj; have := h.h01; omega), hc, owns_other h.ol hg (fun k hk e => by have := h.lg k hk; have := Option.some.inj e; omega), h.h0, h.h01, h.h1, h.lg⟩
theorem SU.c (h : SU w g0 g1 b1 a0 a1 n0 c0 n1 c1 Bl L cl l W) (hc : CSt W' g0 a0 n0 c0) (hg : W.grownBy W' (some g0)) (hp : CSt W' g1 a1 n1 c1) : SU w g0 g1 b1 a0 a1 n0 c0 n1 c1 Bl L cl l W' :=
  ⟨below_grown h.below hg h.h0 (Nat.le_refl _), hc, hp, owns_other h.ol hg (row_g h.ol h.h1), h.h0, h.h01, h.h1, h.lg⟩
theorem SU.far {row : Option Nat} (h : SU w g0 g1 b1 a0 a1 n0 c0 n1 c1 Bl L cl l W) (hg : W.grownBy W' row) (hr : ∀ j, row = some j → g1 < j) : SU w g0 g1 b1 a0 a1 n0 c0 n1 c1 Bl L cl l W' := by
  refine ⟨?_, h.cc.row hg (fun j hj => by have := hr j hj; have := h.h01; omega), h.cp.row hg hr, owns_other h.ol hg (fun k hk e => by have := h.lg k hk; have := hr k e; omega), h.h0, h.h01, h.h1, h.lg⟩
  have hb := h.below
  exact ⟨hg.os.trans hb.os, hg.tape.trans hb.tape, hg.output.trans hb.output, Nat.le_trans hb.size hg.size, fun i hi => (hg.block i (Nat.lt_of_lt_of_le hi hb.size) (fun e => by have := hr i e.symm; have := h.h0; have := h.h01; omega)).trans (hb.block i hi)⟩
theorem SU.bel (h : SU w g0 g1 b1 a0 a1 n0 c0 n1 c1 Bl L cl l W) (hb : Below W.heap.size W W') : SU w g0 g1 b1 a0 a1 n0 c0 n1 c1 Bl L cl l W' :=
  h.far (only_below hb none) (fun j hj => by cases hj)
end
/-- the choices over the region that swaps -/
theorem swap_mem {ms : List ByteArray} {i k : Nat} {x y : ByteArray} (hx : ms[i]? = some x) (hy : ms[k]? = some y) : ((ms.set i y).set k x).Perm ms := by
  have hi : i < ms.length := (List.getElem?_eq_some_iff.1 hx).1
  have hk : k < ms.length := (List.getElem?_eq_some_iff.1 hy).1
  have := List.set_set_perm hi hk
  rw [List.getElem?_eq_getElem hi] at hx
  rw [List.getElem?_eq_getElem hk] at hy
  rw [← Option.some.inj hx, ← Option.some.inj hy]; exact this
/-- sets are equal exactly if they have the same elements -/
theorem sets_eq {l ms : List ByteArray} (h : ∀ u, u ∈ ms ↔ u ∈ l) : sortM ms = sortM l := (sortM_eq (sortM_asc ms) fun u => sortM_mem.trans (h u))
theorem set_str {l : List ByteArray} (hv : ∀ s ∈ l, ValOK 2 s) (hl : l.length ≤ 10) : mkP 5 (sortM l) = encB 5 (sortM l) ∧ 3 + totB (sortM l) ≤ 131072 := by
  have hb : ∀ s ∈ sortM l, ValOK 2 s := fun s hs => hv s (sortM_mem.1 hs)
  have h1 := totB_ok hb
  have h2 := sortM_len l
  have h3 : (sortM l).length * (10 * 4 ^ (2 - 1)) ≤ 10 * (10 * 4 ^ (2 - 1)) := Nat.mul_le_mul_right _ (by omega)
  have h4 : 10 * (10 * 4 ^ (2 - 1)) = 400 := by decide
  exact ⟨mkP_good (d := 2) (by decide) (fun s hs => (hb s hs).1) (by omega), by omega⟩
theorem set_has {l ms : List ByteArray} {x : ByteArray} (hv : ∀ s ∈ l, ValOK 2 s) (hx : ValOK 2 x) (hl : l.length ≤ 8) (hm : ms.length ≤ 9) (h : ∀ u, u ∈ ms ↔ u ∈ l) :
    ((mkP 5 (sortM (ms ++ [x]))).toList == (mkP 5 (sortM l)).toList) = hasB x l := by
  have hv2 : ∀ s ∈ ms ++ [x], ValOK 2 s := fun s hs => by
    rcases List.mem_append.1 hs with hs | hs
    · exact hv s ((h s).1 hs)
    · rw [List.mem_singleton.1 hs]; exact hx
  cases hh : hasB x l with
  | true =>
    have hin := hasB_iff.1 hh
    rw [sets_eq (l := l) (ms := ms ++ [x]) fun u => by
      rw [List.mem_append, h, List.mem_singleton]
      exact ⟨fun q => q.elim id fun q => q ▸ hin, .inl⟩]
    exact beq_self_eq_true _
  | false =>
    refine ne_list fun q => ?_
    have s1 := set_str hv2 (by rw [List.length_append]; simp; omega)
    have s2 := set_str hv (by omega)
    rw [s1.1, s2.1] at q
    have hb1 : ∀ s ∈ sortM (ms ++ [x]), valB 2 s = true := fun s hs => (hv2 s (sortM_mem.1 hs)).1
    have hb2 : ∀ s ∈ sortM l, valB 2 s = true := fun s hs => (hv s (sortM_mem.1 hs)).1
    have e := encB_inj (d := 2) (by decide) (by decide) hb1 hb2 (parted_set (by decide) hb1 (sortM_asc _)) (parted_set (by decide) hb2 (sortM_asc _)) s1.2 s2.2 q
    have : x ∈ sortM l := by rw [← e]; exact sortM_mem.2 (by simp)
    have := hasB_iff.2 (sortM_mem.1 this)
    rw [hh] at this; cases this
set_option linter.unusedSimpArgs false in
set_option maxRecDepth 100000 in
set_option maxHeartbeats 12800000 in
theorem valueSetsUnique_any (a0 a1 : Option Addr) (n0 c0 n1 c1 : Nat) (h0 : n0 ≤ maxLen) (h1 : n1 ≤ maxLen) (w : World) (hI0 : InInts w a0 n0) (hI1 : InInts w a1 n1) :
    Calls Tryz.prog 7 #[.slice a0 n0 c0, .slice a1 n1 c1] w fun e w' => e = .returned (.bool true) ∧ Below w.heap.size w w' := by
  have HVS := hide (fun w g A n c => values_st 2 (by decide) (value_st 2 (by decide) (by decide)) 2 8 8 rfl rfl (by decide) (by decide) w g A n c)
  have HV := hide (value_st 2 (by decide) (by decide))
  have HI1 := hide hI1
  have HN0 := Lib.hid h0
  have HN1 := Lib.hid h1
  have HC0 := hide (CSt.start (c := c0) hI0)
  have HB0 : Hid (Below w.heap.size w (w.alloc (.cells #[.slice a0 n0 c0, .int .i64 0] 53))) := hide ((Below.refl _ _).alloc (Nat.le_refl _) _)
  obtain ⟨i0, hi0, hiz0, hiz1, hiz2⟩ := info_parts val_info
  clear hI0 hI1 h0 h1
  go_enter Tryz.func7, Tryz.ntmps7
  go_wp2_with fail
  refine (new_cho w a0 n0 c0).mono ?_
  rintro e w1 ⟨rfl, rfl⟩
  have hsz1 : (w.alloc (.cells #[.slice a0 n0 c0, .int .i64 0] 53)).heap.size = w.heap.size + 1 := by simp
  generalize w.alloc (.cells #[.slice a0 n0 c0, .int .i64 0] 53) = w1 at *
  obtain ⟨g0, hg0⟩ : ∃ g0, g0 = w.heap.size := ⟨_, rfl⟩
  rw [← hg0] at HC0 ⊢
  have hg0l : w.heap.size ≤ g0 := Nat.le_of_eq hg0.symm
  have hg0b : g0 < w1.heap.size := by omega
  clear hsz1 hg0
  go_wp2_with fail
  refine ((unhide HVS) w1 g0 a0 n0 c0 (unhide HC0) HN0.out).mono ?_
  rintro e w2 ⟨Bl, cl, L, l, rfl, hL, hL8, hv, hO, hC2, hG2⟩
  have HV2 := Lib.hid hv
  have HL := Lib.hid hL
  have HC2 := hide hC2
  have HOL := hide hO
  have HB2 := hide (below_grown (unhide HB0) hG2 hg0l (Nat.le_refl _))
  have hg2 : g0 < w2.heap.size := hC2.lt
  have HLG : Hid (∀ k, (Value.slice Bl L cl).ownBlock = some k → k < w2.heap.size) := Lib.hid fun k hk => (hO.lt k hk).2
  clear hL hv hO hC2 hG2 HC0 HB0
  go_wp2_with fail
  refine (new_cho w2 a1 n1 c1).mono ?_
  rintro e w3 ⟨rfl, rfl⟩
  have HSU := hide (show SU w g0 w2.heap.size w1.heap.size a0 a1 n0 c0 n1 c1 Bl L cl l (w2.alloc (.cells #[.slice a1 n1 c1, .int .i64 0] 53)) from
    ⟨(unhide HB2).alloc (unhide HB2).size _, (unhide HC2).alloc _, CSt.start (c := c1) ((unhide HI1).below (unhide HB2)), (unhide HOL).alloc _, hg0l, hg2, hg0b, HLG.out⟩)
  have hsz3 : (w2.alloc (.cells #[.slice a1 n1 c1, .int .i64 0] 53)).heap.size = w2.heap.size + 1 := by simp
  generalize w2.alloc (.cells #[.slice a1 n1 c1, .int .i64 0] 53) = w3 at *
  generalize w2.heap.size = g1 at *
  generalize w1.heap.size = b1 at *
  have hw3 : w3.heap.size = g1 + 1 := hsz3
  clear HC2 HOL HB2 hg2 HLG hsz3
  go_wp2_with (at_builtin; refine wpList_app _ rfl _ _ 22 rfl w3.heap.size 27 i0 _ 1 16 Tryz.underlying22 hi0 hiz0 hiz1 hiz2 rfl (by decide) (.slice none 0 0) 0 [] rfl (World.ownsRow_nil _ _ _ _) Bl L cl (l.map Value.string) rfl (unhide HSU).ol.1 (InC.own (unhide HSU).ol) (str_one l) (by unfold maxLen; omega) (by omega) (Nat.le_refl _) ?_; intro v4 w4 hown4 hgrow4 _)
  rw [Nat.zero_add, List.nil_append] at hown4
  have HSU4 := hide ((unhide HSU).far hgrow4 (fun j hj => by simp [Value.ownBlock] at hj))
  obtain ⟨Am, cm, rfl⟩ := owns_form hown4
  have hb2 : g1 < w3.heap.size := by omega
  have HOM : Hid (w4.ownsRow w3.heap.size 27 1 (.slice Am L cm) L (l.map Value.string)) := hide hown4
  have hbs4 : w3.heap.size ≤ w4.heap.size := hgrow4.size
  generalize w3.heap.size = b2 at *
  clear hown4 hgrow4 HSU hw3
  go_wp2_with fail
  go_loopw [9] (fun iv wr => ∃ (i : Nat) (ms : List ByteArray), iv = .int .i64 i ∧ i ≤ L ∧ b2 ≤ wr.heap.size ∧ Hid (ms.Perm l) ∧ Hid (wr.ownsRow b2 27 1 (.slice Am L cm) L (ms.map Value.string)) ∧ Hid (SU w g0 g1 b1 a0 a1 n0 c0 n1 c1 Bl L cl l wr)) (fun iv _ => L - (intOf iv).toNat)
  case atStart => exact ⟨0, l, rfl, by omega, hbs4, List.Perm.refl _, unhide HOM, unhide HSU4⟩
  case round =>
    obtain ⟨i, ms, rfl, hi, hbs, hP, hO, hS⟩ := hrel
    clear HOM HSU4
    by_cases hil : i < L
    · go_wp2_with fail
      refine (next_st (L : Int) L rfl (by omega) (by omega) hS.out.cp HN1.out).mono ?_
      rintro e w5 ⟨r, hr, rfl, hC5, hG5⟩
      have HS5 := hide (hS.out.p hC5 hG5)
      have HO5 := hide (owns_other hO.out hG5 (row_g hO.out hb2))
      have hgz5 : b2 ≤ w5.heap.size := by have := hG5.size; omega
      clear hC5 hG5 hO hS
      have hml : ms.length = L := by rw [hP.out.length_eq]; exact HL.out.symm
      obtain ⟨x, hx⟩ : ∃ x, ms[i]? = some x := ⟨ms[i]'(by omega), List.getElem?_eq_getElem _⟩
      obtain ⟨y, hy⟩ : ∃ y, ms[r]? = some y := ⟨ms[r]'(by omega), List.getElem?_eq_getElem _⟩
      obtain ⟨gm, cm', hAm, hgm, hgl, hnc, hcell⟩ := owns_cell (unhide HO5) (by omega)
      have HSW := Lib.hid (swap_mem hx hy)
      have cx := hcell i (.string x) (by rw [List.getElem?_map, hx]; rfl)
      have cy := hcell r (.string y) (by rw [List.getElem?_map, hy]; rfl)
      injection hAm with hAm _ hcm
      subst hAm
      subst hcm
      have hst1 := World.ownsRow.stored (unhide HO5) i (.string y)
      have hst2 := World.ownsRow.stored hst1.1 r (.string x)
      have HO6 : Hid (((w5.setCell ⟨gm, i, none⟩ (.string y)).setCell ⟨gm, r, none⟩ (.string x)).drew.ownsRow b2 27 1 (.slice (some ⟨gm, 0, none⟩) L cm) L (((ms.set i y).set r x).map Value.string)) := hide (by
        have := hst2.1
        rw [← List.map_set, ← List.map_set] at this
        exact this.drew)
      have HS6 : Hid (SU w g0 g1 b1 a0 a1 n0 c0 n1 c1 Bl L cl l ((w5.setCell ⟨gm, i, none⟩ (.string y)).setCell ⟨gm, r, none⟩ (.string x)).drew) := hide ((((unhide HS5).far hst1.2 (fun j hj => by have := Option.some.inj hj; omega)).far hst2.2 (fun j hj => by have := Option.some.inj hj; omega)).bel (below_drew (Below.refl _ _)))
      obtain ⟨cur, hcur⟩ : ∃ cur, Blk w5 gm 27 cur := by
        rcases (unhide HO5).2 with ⟨q, _⟩ | ⟨g', cap', cur, q, _, hh, _⟩
        · cases q
        · injection q with q1
          injection q1 with q1
          injection q1 with q1
          subst q1
          exact ⟨cur, hh⟩
      have f1 := hcur.frozen i
      have f2 := hcur.frozen r
      obtain ⟨u3, c3⟩ : ∃ u, (w5.setCell ⟨gm, i, none⟩ (.string y)).cell? ⟨gm, r, none⟩ = some u := by
        obtain ⟨gz, cz, hz, _, _, _, hcz⟩ := owns_cell hst1.1 (by omega)
        injection hz with hz
        injection hz with hz
        injection hz with hz
        subst hz
        obtain ⟨u, hu⟩ : ∃ u, ((ms.map Value.string).set i (.string y))[r]? = some u := ⟨_, List.getElem?_eq_getElem (by rw [List.length_set, List.length_map]; omega)⟩
        exact ⟨u, hcz r u hu⟩
      have ri : IntKind.i64.wrap (i : Int) = (i : Int) := IntWalk.i64_in _ (by omega)
      have rr : IntKind.i64.wrap (r : Int) = (r : Int) := IntWalk.i64_in _ (by omega)
      have pi : (0 : Int) ≤ (i : Int) := by omega
      have pr : (0 : Int) ≤ (r : Int) := by omega
      have bi : (i : Int) < (L : Int) := by omega
      have br : (r : Int) < (L : Int) := by omega
      have ti : ((i : Int)).toNat = i := by omega
      have tr : ((r : Int)).toNat = r := by omega
      have HPM := Lib.hid (HSW.out.trans hP.out)
      have hbs6 : b2 ≤ ((w5.setCell ⟨gm, i, none⟩ (.string y)).setCell ⟨gm, r, none⟩ (.string x)).drew.heap.size := by have h1 := hst1.2.size; have h2 := hst2.2.size; have h3 := hgz5; exact Nat.le_trans h3 (Nat.le_trans h1 h2)
      clear hst1 hst2 hx hy hcell hcur HO5 HS5 hgm hgl hP HSW hml
      go_wp2_with fail
      go_big_region
      generalize ((w5.setCell ⟨gm, i, none⟩ (.string y)).setCell ⟨gm, r, none⟩ (.string x)).drew = w6 at *
      clear f1 f2 c3 cx cy ti tr ri rr
      go_wp2_with fail
      go_roundw
      case rel => exact ⟨i + 1, (ms.set i y).set r x, by go_num, by omega, hbs6, HPM.out, unhide HO6, unhide HS6⟩
      case measure => simp [intOf]; omega
    · have HMI : Hid (∀ u, u ∈ ms ↔ u ∈ l) := Lib.hid (fun u => hP.out.mem_iff)
      have HML : Hid (ms.length ≤ 8) := Lib.hid (by rw [hP.out.length_eq, ← HL.out]; omega)
      have HMN : Hid (L = ms.length) := Lib.hid (by rw [hP.out.length_eq]; exact HL.out)
      have HSa := hide hS.out
      have HOa := hide hO.out
      clear hP hS hO
      rcases Nat.eq_zero_or_pos L with hL0 | hL0
      · have gL : decide ((0 : Int) < (L : Int)) = false := decide_eq_false (by omega)
        have gL2 : decide (0 < L) = false := decide_eq_false (by omega)
        have gL3 : ¬ 0 < L := by omega
        clear hL0
        go_wp2_with fail
        refine ((unhide HV) 2 rfl _ g0 a0 n0 c0 (unhide HSa).cc HN0.out).mono ?_
        rintro e w7 ⟨x, rfl, hvx, hC7, hG7⟩
        have HB7 := hide (below_grown (unhide HSa).below hG7 (unhide HSa).h0 (Nat.le_refl _))
        have HL7 := hide (owns_other (unhide HSa).ol hG7 (row_g (unhide HSa).ol (unhide HSa).h1))
        have HM7 := hide (owns_other (unhide HOa) hG7 (row_g (unhide HOa) (by have := (unhide HSa).h01; omega)))
        have hxs : x.size ≤ 40960 := hvx.size (by decide)
        have hMs : L ≤ 1048575 := by omega
        have HHAS : Hid (((mkP 5 (sortM (ms ++ [x]))).toList == (mkP 5 (sortM l)).toList) = hasB x l) := Lib.hid (set_has HV2.out hvx (by rw [← HL.out]; omega) (by have := HML.out; omega) HMI.out)
        have HSL := Lib.hid (fun w hr => pset_any l Bl L cl w HL.out (by omega) (fun s h => by have := (HV2.out s h).size (by decide); omega) hr)
        have HSM := Lib.hid (fun w hr => pset_any (ms) Am (L) cm w HMN.out (by omega) (fun s h => by have := (HV2.out s ((HMI.out s).1 h)).size (by decide); omega) hr)
        have HSE := Lib.hid (fun w B cb hr => pset_any (ms ++ [x]) B (L + 1) cb w (by rw [List.length_append, ← HMN.out]; rfl) (by omega) (fun s h => by
          rcases List.mem_append.1 h with h | h
          · have := (HV2.out s ((HMI.out s).1 h)).size (by decide); omega
          · rw [List.mem_singleton.1 h]; omega) hr)
        have HHS := Lib.hid (fun w hr => has_any l x Bl L cl w HL.out (by omega) hr)
        rw [sets_eq HMI.out] at HSM
        generalize mkP 5 (sortM l) = P at *
        generalize mkP 5 (sortM (ms ++ [x])) = P2 at *
        generalize hasB x l = hb at *
        have hPP : (P.toList == P.toList) = true := beq_self_eq_true _
        have hP2 := HHAS.out
        have hz7 : b2 ≤ w7.heap.size := by have := hG7.size; omega
        have HLG := Lib.hid (unhide HSa).lg
        have hwb : w.heap.size ≤ b2 := by have := (unhide HSa).h0; have := (unhide HSa).h01; omega
        clear hvx hC7 hG7 HSa HOa HHAS
        go_wp2_with fail
        refine (vawake_any _).mono ?_
        rintro e w8 ⟨rfl, hb8⟩
        have HB8 := hide ((unhide HB7).trans (hb8.mono (unhide HB7).size))
        have HL8 := hide (owns_below (unhide HL7) hb8)
        have HM8 := hide (owns_below (unhide HM7) hb8)
        have hz8 : b2 ≤ w8.heap.size := by have := hb8.size; omega
        clear hb8 HB7 HL7 HM7 hz7
        go_wp2_with fail
        refine (HSL.out _ (InC.own (unhide HL8))).mono ?_
        rintro e w9 ⟨rfl, hb9⟩
        have HB9 := hide ((unhide HB8).trans (hb9.mono (unhide HB8).size))
        have HL9 := hide (owns_below (unhide HL8) hb9)
        have HM9 := hide (owns_below (unhide HM8) hb9)
        have hz9 : b2 ≤ w9.heap.size := by have := hb9.size; omega
        clear hb9 HB8 HL8 HM8 hz8
        go_wp2_with fail
        refine (HSM.out _ (InC.own (unhide HM9))).mono ?_
        rintro e w10 ⟨rfl, hb10⟩
        have HB10 := hide ((unhide HB9).trans (hb10.mono (unhide HB9).size))
        have HL10 := hide (owns_below (unhide HL9) hb10)
        have HM10 := hide (owns_below (unhide HM9) hb10)
        have hz10 : b2 ≤ w10.heap.size := by have := hb10.size; omega
        clear hb10 HB9 HL9 HM9 hz9
        have HM11 := hide ((unhide HM10).alloc (.cells #[.string x] 27))
        have HL11 := hide ((unhide HL10).alloc (.cells #[.string x] 27))
        have HB11 := hide ((unhide HB10).alloc (unhide HB10).size (.cells #[.string x] 27))
        have hbz : b2 ≤ w10.heap.size := by omega
        go_wp2_with (at_builtin; refine wpList_app_w (by rfl) _ _ 22 rfl b2 27 i0 _ 1 16 Tryz.underlying22 hi0 hiz0 hiz1 hiz2 rfl (by decide) _ (L) ((ms).map Value.string) rfl (unhide HM11) (some ⟨w10.heap.size, 0, none⟩) 1 1 [.string x] rfl rfl (new_in w10 27 #[.string x]) (one_str x) (by unfold maxLen; omega) (by omega) (by simp; omega) ?_; intro v12 w12 hown12 hgrow12 _)
        have HB12 := hide (below_row (unhide HB11) hgrow12 (fun j hj => by have := ((unhide HM11).lt j hj).1; omega))
        have HL12 := hide (owns_other (unhide HL11) hgrow12 (fun k hk e => by have := ((unhide HM11).lt k e).1; have := HLG.out k hk; omega))
        obtain ⟨A12, c12, rfl⟩ := owns_form hown12
        have HI12 : Hid (InC w12 A12 ((ms ++ [x]).map Value.string)) := hide (by rw [List.map_append]; exact InC.own hown12)
        clear hown12 hgrow12 HB11 HL11 HM11 HB10 HL10 HM10
        go_wp2_with fail
        refine (HSE.out _ _ _ (unhide HI12)).mono ?_
        rintro e w13 ⟨rfl, hb13⟩
        have HB13 := hide ((unhide HB12).trans (hb13.mono (unhide HB12).size))
        have HL13 := hide (owns_below (unhide HL12) hb13)
        clear hb13 HB12 HL12 HI12
        go_wp2_with fail
        refine (HSL.out _ (InC.own (unhide HL13))).mono ?_
        rintro e w14 ⟨rfl, hb14⟩
        have HB14 := hide ((unhide HB13).trans (hb14.mono (unhide HB13).size))
        have HL14 := hide (owns_below (unhide HL13) hb14)
        clear hb14 HB13 HL13
        go_wp2_with fail
        refine (HHS.out _ (InC.own (unhide HL14))).mono ?_
        rintro e w15 ⟨rfl, hb15⟩
        have HB15 := hide ((unhide HB14).trans (hb15.mono (unhide HB14).size))
        clear hb15 HB14 HL14
        go_wp2_with fail
        go_ret
        exact ⟨rfl, unhide HB15⟩
      · go_wp2_with fail
        refine (next_st (L : Int) L rfl (by omega) (by omega) (unhide HSa).cp HN1.out).mono ?_
        rintro e w5 ⟨r, hr, rfl, hC5, hG5⟩
        have HS5 := hide ((unhide HSa).p hC5 hG5)
        have HO5 := hide (owns_other (unhide HOa) hG5 (row_g (unhide HOa) hb2))
        have hbs5 : b2 ≤ w5.heap.size := by have := hG5.size; omega
        obtain ⟨y, hy⟩ : ∃ y, l[r]? = some y := ⟨l[r]'(by have := HL.out; omega), List.getElem?_eq_getElem _⟩
        obtain ⟨b5, o5, hA5, hb5, hc5⟩ := at1s (InC.own (unhide HS5).ol) (i := r) (u := .string y) (by rw [List.getElem?_map, hy]; rfl)
        have HYL := Lib.hid (List.mem_of_getElem? hy)
        subst hA5
        have rr : IntKind.i64.wrap (r : Int) = (r : Int) := IntWalk.i64_in _ (by omega)
        clear hC5 hG5 HSa HOa hy hb5
        have HO6 := hide ((unhide HO5).alloc (.cells #[.string y] 27))
        have HS6 := hide ((unhide HS5).bel ((Below.refl _ _).alloc (Nat.le_refl _) (.cells #[.string y] 27)))
        go_wp2_with (at_builtin; refine wpList_app _ rfl _ _ 22 rfl b2 27 i0 _ 1 16 Tryz.underlying22 hi0 hiz0 hiz1 hiz2 rfl (by decide) _ L (ms.map Value.string) rfl (unhide HO6) (some ⟨w5.heap.size, 0, none⟩) 1 1 [.string y] rfl rfl (new_in w5 27 #[.string y]) (one_str y) (by unfold maxLen; omega) (by omega) (by simp; omega) ?_; intro v6 w6 hown6 hgrow6 _)
        have hbs6 : b2 ≤ w6.heap.size := by have h1 := hgrow6.size; simp at h1; omega
        have HSb := hide ((unhide HS6).far hgrow6 (fun j hj => by have := ((unhide HO6).lt j hj).1; omega))
        obtain ⟨A6, c6, rfl⟩ := owns_form hown6
        have HOb : Hid (w6.ownsRow b2 27 1 (.slice A6 (L + 1) c6) (L + 1) ((ms ++ [y]).map Value.string)) := hide (by rw [List.map_append]; exact hown6)
        have HMIb : Hid (∀ u, u ∈ ms ++ [y] ↔ u ∈ l) := Lib.hid (fun u => by
          rw [List.mem_append, HMI.out, List.mem_singleton]
          exact ⟨fun q => q.elim id fun q => q ▸ HYL.out, .inl⟩)
        have HMLb : Hid ((ms ++ [y]).length ≤ 9) := Lib.hid (by rw [List.length_append]; have := HML.out; simp; omega)
        have HMNb : Hid (L + 1 = (ms ++ [y]).length) := Lib.hid (by rw [List.length_append, ← HMN.out]; rfl)
        clear hown6 hgrow6 HS5 HO5 HS6 HO6 hbs5 hbs rr hc5
        go_wp2_with fail
        refine ((unhide HV) 2 rfl _ g0 a0 n0 c0 (unhide HSb).cc HN0.out).mono ?_
        rintro e w7 ⟨x, rfl, hvx, hC7, hG7⟩
        have HB7 := hide (below_grown (unhide HSb).below hG7 (unhide HSb).h0 (Nat.le_refl _))
        have HL7 := hide (owns_other (unhide HSb).ol hG7 (row_g (unhide HSb).ol (unhide HSb).h1))
        have HM7 := hide (owns_other (unhide HOb) hG7 (row_g (unhide HOb) (by have := (unhide HSb).h01; omega)))
        have hxs : x.size ≤ 40960 := hvx.size (by decide)
        have hMs : (L + 1) ≤ 1048575 := by omega
        have HHAS : Hid (((mkP 5 (sortM ((ms ++ [y]) ++ [x]))).toList == (mkP 5 (sortM l)).toList) = hasB x l) := Lib.hid (set_has HV2.out hvx (by rw [← HL.out]; omega) (by have := HMLb.out; omega) HMIb.out)
        have HSL := Lib.hid (fun w hr => pset_any l (some ⟨b5, o5, none⟩) L cl w HL.out (by omega) (fun s h => by have := (HV2.out s h).size (by decide); omega) hr)
        have HSM := Lib.hid (fun w hr => pset_any ((ms ++ [y])) A6 ((L + 1)) c6 w HMNb.out (by omega) (fun s h => by have := (HV2.out s ((HMIb.out s).1 h)).size (by decide); omega) hr)
        have HSE := Lib.hid (fun w B cb hr => pset_any ((ms ++ [y]) ++ [x]) B ((L + 1) + 1) cb w (by rw [List.length_append, ← HMNb.out]; rfl) (by omega) (fun s h => by
          rcases List.mem_append.1 h with h | h
          · have := (HV2.out s ((HMIb.out s).1 h)).size (by decide); omega
          · rw [List.mem_singleton.1 h]; omega) hr)
        have HHS := Lib.hid (fun w hr => has_any l x (some ⟨b5, o5, none⟩) L cl w HL.out (by omega) hr)
        rw [sets_eq HMIb.out] at HSM
        generalize mkP 5 (sortM l) = P at *
        generalize mkP 5 (sortM ((ms ++ [y]) ++ [x])) = P2 at *
        generalize hasB x l = hb at *
        have hPP : (P.toList == P.toList) = true := beq_self_eq_true _
        have hP2 := HHAS.out
        have hz7 : b2 ≤ w7.heap.size := by have := hG7.size; omega
        have HLG := Lib.hid (unhide HSb).lg
        have hwb : w.heap.size ≤ b2 := by have := (unhide HSb).h0; have := (unhide HSb).h01; omega
        clear hvx hC7 hG7 HSb HOb HHAS
        go_wp2_with fail
        refine (vawake_any _).mono ?_
        rintro e w8 ⟨rfl, hb8⟩
        have HB8 := hide ((unhide HB7).trans (hb8.mono (unhide HB7).size))
        have HL8 := hide (owns_below (unhide HL7) hb8)
        have HM8 := hide (owns_below (unhide HM7) hb8)
        have hz8 : b2 ≤ w8.heap.size := by have := hb8.size; omega
        clear hb8 HB7 HL7 HM7 hz7
        go_wp2_with fail
        refine (HSL.out _ (InC.own (unhide HL8))).mono ?_
        rintro e w9 ⟨rfl, hb9⟩
        have HB9 := hide ((unhide HB8).trans (hb9.mono (unhide HB8).size))
        have HL9 := hide (owns_below (unhide HL8) hb9)
        have HM9 := hide (owns_below (unhide HM8) hb9)
        have hz9 : b2 ≤ w9.heap.size := by have := hb9.size; omega
        clear hb9 HB8 HL8 HM8 hz8
        go_wp2_with fail
        refine (HSM.out _ (InC.own (unhide HM9))).mono ?_
        rintro e w10 ⟨rfl, hb10⟩
        have HB10 := hide ((unhide HB9).trans (hb10.mono (unhide HB9).size))
        have HL10 := hide (owns_below (unhide HL9) hb10)
        have HM10 := hide (owns_below (unhide HM9) hb10)
        have hz10 : b2 ≤ w10.heap.size := by have := hb10.size; omega
        clear hb10 HB9 HL9 HM9 hz9
        have HM11 := hide ((unhide HM10).alloc (.cells #[.string x] 27))
        have HL11 := hide ((unhide HL10).alloc (.cells #[.string x] 27))
        have HB11 := hide ((unhide HB10).alloc (unhide HB10).size (.cells #[.string x] 27))
        have hbz : b2 ≤ w10.heap.size := by omega
        go_wp2_with (at_builtin; refine wpList_app_w (by rfl) _ _ 22 rfl b2 27 i0 _ 1 16 Tryz.underlying22 hi0 hiz0 hiz1 hiz2 rfl (by decide) _ ((L + 1)) (((ms ++ [y])).map Value.string) rfl (unhide HM11) (some ⟨w10.heap.size, 0, none⟩) 1 1 [.string x] rfl rfl (new_in w10 27 #[.string x]) (one_str x) (by unfold maxLen; omega) (by omega) (by simp; omega) ?_; intro v12 w12 hown12 hgrow12 _)
        have HB12 := hide (below_row (unhide HB11) hgrow12 (fun j hj => by have := ((unhide HM11).lt j hj).1; omega))
        have HL12 := hide (owns_other (unhide HL11) hgrow12 (fun k hk e => by have := ((unhide HM11).lt k e).1; have := HLG.out k hk; omega))
        obtain ⟨A12, c12, rfl⟩ := owns_form hown12
        have HI12 : Hid (InC w12 A12 (((ms ++ [y]) ++ [x]).map Value.string)) := hide (by rw [List.map_append]; exact InC.own hown12)
        clear hown12 hgrow12 HB11 HL11 HM11 HB10 HL10 HM10
        go_wp2_with fail
        refine (HSE.out _ _ _ (unhide HI12)).mono ?_
        rintro e w13 ⟨rfl, hb13⟩
        have HB13 := hide ((unhide HB12).trans (hb13.mono (unhide HB12).size))
        have HL13 := hide (owns_below (unhide HL12) hb13)
        clear hb13 HB12 HL12 HI12
        go_wp2_with fail
        refine (HSL.out _ (InC.own (unhide HL13))).mono ?_
        rintro e w14 ⟨rfl, hb14⟩
        have HB14 := hide ((unhide HB13).trans (hb14.mono (unhide HB13).size))
        have HL14 := hide (owns_below (unhide HL13) hb14)
        clear hb14 HB13 HL13
        go_wp2_with fail
        refine (HHS.out _ (InC.own (unhide HL14))).mono ?_
        rintro e w15 ⟨rfl, hb15⟩
        have HB15 := hide ((unhide HB14).trans (hb15.mono (unhide HB14).size))
        clear hb15 HB14 HL14
        go_wp2_with fail
        go_ret
        exact ⟨rfl, unhide HB15⟩

end Go.Proofs.YtmaboodfgmbdjaaGreatDoor
