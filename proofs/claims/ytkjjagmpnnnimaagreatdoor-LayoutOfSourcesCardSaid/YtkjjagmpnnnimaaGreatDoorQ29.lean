/- The reference's Insert returns what the model says, at every list of tokens. Conditions: at most two hundred million tokens, strings of at most 2^47 bytes. Equality of two lists of tokens that lie in memory. No conditions but that there is memory for them. The tokens of a scan have short texts; the letters of the kinds; the statements' fixed examples on the model. No program in it. -/
import Derived.Test.YtkjjagmpnnnimaaGreatDoorQ27
import Derived.Test.YtkjjagmpnnnimaaGreatDoorQ28
import Derived.Test.YtkjjagmpnnnimaaGreatDoorQ6
import Derived.Test.YtkjjagmpnnnimaaGreatDoorQ21
namespace Go.Proofs.YtkjjagmpnnnimaaGreatDoor
open Go.RowKit M

set_option maxRecDepth 100000 in
set_option maxHeartbeats 6400000 in
theorem rinsert_all (w : World) (A : Option Addr) (n c : Nat) (ts : List Tok) (hn : n = ts.length) (hA : InToks w A ts) (hm : ts.length ≤ 200000000) (hs : ∀ t ∈ ts, t.1.str.length ≤ 140737488355328) :
    Calls Tryz.prog 24 #[.slice A n c] w (ScanPost (insL ts) w) := by
  have HA := Lib.hid hA
  have HS := Lib.hid hs
  have HRR : Hid (∃ R, insL ts = R) := ⟨_, rfl⟩
  clear hA hs
  obtain ⟨R, hR⟩ := HRR.out
  have hIR : Hid (insL ts = R) := hR
  subst hn
  clear HRR hR
  rw [hIR.out]
  go_enter Tryz.func24, Tryz.ntmps24
  go_wp2_with fail
  have hst := rstart (w.alloc (.cells #[.int .i64 0, .int .i64 0] 25))
  simp at hst
  refine (rput_any _ (· < w.heap.size + 1) (w.heap.size + 1 + 1) _ 5 1 1 hst (by simp)).mono ?_
  rintro e w1 ⟨rfl, hB1, hK1⟩
  have HB1 : Hid (RSt w1 (· < w.heap.size + 1) (w.heap.size + 1 + 1) startL) := hB1
  have HK1 : Hid (Keep (· < w.heap.size + 1) (w.alloc (.cells #[.int .i64 0, .int .i64 0] 25)) w1) :=
    (((Keep.refl _ _).alloc (fun k hk => by simpa using hk) _).alloc (fun k hk => by simpa using hk) _).trans hK1
  have hL : w.heap.size + 1 ≤ w1.heap.size := by have := hK1.size; simp at this; omega
  clear hst hB1 hK1
  go_wp2_with fail
  go_loopw [7] (fun i wr => RIRel w w1.heap.size ts i wr) (fun i _ => ts.length - (intOf i).toNat)
  case atStart =>
    refine ⟨0, startL, by omega, rfl, start_inv, start_rinv, ?_, HK1.out.alloc (fun k hk => by simpa using hk) _, Blk.new w1 _ _, rfl⟩
    obtain ⟨vt, vc, q⟩ := HB1.out
    exact ⟨vt, vc, q.more _⟩
  case round =>
    obtain ⟨k, s, hk, rfl, hI, hJ, hB, hK, hLB, hF⟩ := hrel
    have HI := Lib.hid hI
    have HJ := Lib.hid hJ
    have HB := Lib.hid hB
    have HK := Lib.hid hK
    have HF := Lib.hid hF
    have HLB := Lib.hid hLB
    have hbelow : Below w.heap.size w wr := by
      have h1 : Keep (· < w.heap.size) w (w.alloc (.cells #[.int .i64 0, .int .i64 0] 25)) := (Keep.refl _ w).alloc (fun _ q => q) _
      exact (h1.trans (hK.mono fun k hk => by omega)).to_below
    have HBL := Lib.hid hbelow
    have l0 := hLB.cell 0
    have l1 := hLB.cell 1
    have lf := hLB.frozen
    have p0 : wr.cell? ⟨w.heap.size, 0, none⟩ = some (.int .i64 0) := (hK.cell (by omega) 0).trans (cell_of_row _ _ 0 _ _ _ (heap_alloc_new w _))
    have p1 : wr.cell? ⟨w.heap.size, 1, none⟩ = some (.int .i64 0) := (hK.cell (by omega) 1).trans (cell_of_row _ _ 1 _ _ _ (heap_alloc_new w _))
    have pf : ∀ i, wr.frozen? ⟨w.heap.size, i, none⟩ = false := fun i => (hK.frozen (by omega) i).trans ((Blk.new w 25 #[.int .i64 0, .int .i64 0]).frozen i)
    have hwl : w.heap.size < wr.heap.size := hB.lt _ (.inl (by omega))
    have hLw : w1.heap.size < wr.heap.size := hLB.lt
    have hgw : w.heap.size + 1 + 1 < wr.heap.size := hB.blt
    obtain ⟨⟨r1, r2⟩, hr⟩ : ∃ p, lastR k s = p := ⟨_, rfl⟩
    rw [hr] at l0 l1
    have HRL := Lib.hid hr
    simp at l0 l1
    clear hI hJ hB hK hF hLB hbelow hr
    by_cases hlt : k < ts.length
    · obtain ⟨⟨t, a, b⟩, ht⟩ : ∃ t, ts[k]? = some t := ⟨ts[k], List.getElem?_eq_getElem hlt⟩
      have htm : t.str.length ≤ 140737488355328 := HS.out _ (List.mem_of_getElem? ht)
      have hdrop : ts.drop k = (t, (a, b)) :: ts.drop (k + 1) := by
        rw [List.drop_eq_getElem_cons hlt]
        have : ts[k] = (t, (a, b)) := by
          have := List.getElem?_eq_getElem hlt
          rw [ht] at this; injection this with this; exact this.symm
        rw [this]
      rcases (HA.out.below HBL.out) with hnil | ⟨bb, off, rfl, hbb, hcell⟩
      · rw [hnil] at hlt; simp at hlt
      have x0 := hcell k _ ht 0 _ rfl
      have x1 := hcell k _ ht 1 _ rfl
      have x2 := hcell k _ ht 2 _ rfl
      have x3 := hcell k _ ht 3 _ rfl
      have x4 := hcell k _ ht 4 _ rfl
      simp only [Nat.add_zero] at x0
      have HF2 : Hid (R = if (addL s (t, (a, b))).1 ≠ 0 then ([], (a, b), (addL s (t, (a, b))).1) else insF (addL s (t, (a, b))).2 (ts.drop (k + 1))) := by
        unfold Hid; rw [← hIR.out, HF.out, hdrop, insF_cons]
      have HI2 := Lib.hid (fun q => add_inv (t, (a, b)) HI.out q)
      have HJ2 := Lib.hid (fun q => add_rinv (t, (a, b)) HI.out HJ.out q)
      have HVE : Hid ((valT t && isAft (a, b) s.last) = (valT t && (decide (1 ≤ b) && aftB (r1, r2) (a, b)))) := by
        unfold Hid; rw [← HRL.out]; exact valid_eq HJ.out _ _
      have HBT := Lib.hid (HB.out.more (.cells #[.int .i64 t.kind, .int .i64 t.num, .string (S t.str), .int .i64 a, .int .i64 b] 37))
      have HV := Lib.hid (fun W => rvalid_any t a b htm W)
      have HAF := Lib.hid (fun W => rafter_any W (r1, r2) (a, b))
      have HBLT : Hid (∀ (W : World), Below (wr.alloc (.cells #[.int .i64 t.kind, .int .i64 t.num, .string (S t.str), .int .i64 a, .int .i64 b] 37)).heap.size (wr.alloc (.cells #[.int .i64 t.kind, .int .i64 t.num, .string (S t.str), .int .i64 a, .int .i64 b] 37)) W →
          (∀ i, W.cell? ⟨wr.heap.size, i, none⟩ = (#[.int .i64 t.kind, .int .i64 t.num, .string (S t.str), .int .i64 a, .int .i64 b] : Array Value)[i]?) ∧ (∀ i, W.cell? ⟨w1.heap.size, i, none⟩ = wr.cell? ⟨w1.heap.size, i, none⟩) ∧ (∀ i, W.cell? ⟨w.heap.size, i, none⟩ = wr.cell? ⟨w.heap.size, i, none⟩) ∧
            (∀ i, W.frozen? ⟨w.heap.size, i, none⟩ = false) ∧ (∀ i, W.frozen? ⟨w1.heap.size, i, none⟩ = false) ∧ Below w.heap.size w W ∧ wr.heap.size < W.heap.size) := fun W hW => by
        have hz := hW.size
        simp at hz
        have hW2 : Below wr.heap.size wr W := ((Below.refl _ _).alloc (Nat.le_refl _) _).trans (hW.mono (by simp))
        exact ⟨fun i => (hW.cell (p := ⟨wr.heap.size, i, none⟩) (by simp)).trans (cell_of_row _ _ i _ _ _ (heap_alloc_new wr _)), fun i => hW2.cell (p := ⟨w1.heap.size, i, none⟩) hLw, fun i => hW2.cell (p := ⟨w.heap.size, i, none⟩) hwl,
          fun i => (hW2.frozen (p := ⟨w.heap.size, i, none⟩) hwl).trans (pf i), fun i => (hW2.frozen (p := ⟨w1.heap.size, i, none⟩) hLw).trans (lf i), HBL.out.trans (hW2.mono (by omega)), by omega⟩
      clear hcell ht hdrop htm HF
      obtain ⟨st, hst⟩ : ∃ st : Bool, st = (((k : Int) == 0) || decide (r1 < a)) := ⟨_, rfl⟩
      have hkk : ((k : Int) == 0) = true ∨ ((k : Int) == 0) = false := by cases ((k : Int) == 0) <;> simp
      have HST := Lib.hid hst
      have HKK := Lib.hid hkk
      clear hst hkk
      go_upto_region 8 with fail
      go_cut [9] (fun s9 wx => s9 = .bool st ∧ wx = wr.alloc (.cells #[.int .i64 t.kind, .int .i64 t.num, .string (S t.str), .int .i64 a, .int .i64 b] 37))
      case first =>
        rcases HKK.out with hk0 | hk0
        · go_wp2_with fail
          go_meet
          case rel => exact ⟨by rw [HST.out, hk0]; rfl, rfl⟩
        · go_wp2_with fail
          go_meet
          case rel => exact ⟨by rw [HST.out, hk0]; simp, rfl⟩
      case rest =>
        obtain ⟨rfl, rfl⟩ := hcut
        by_cases hinv : (valT t && isAft (a, b) s.last) = false
        · have HR1 : Hid (R = ([], (a, b), 1)) := by
            have h1 : addL s (t, (a, b)) = (1, s) := by unfold addL; rw [if_pos hinv]
            unfold Hid; rw [HF2.out, h1]; rfl
          have hwhy : valT t = false ∨ (valT t = true ∧ b < 1) ∨ (valT t = true ∧ 1 ≤ b ∧ aftB (r1, r2) (a, b) = false) := by
            rw [HVE.out] at hinv
            cases hv : valT t
            · exact .inl rfl
            · rw [hv, Bool.true_and] at hinv
              by_cases hb : 1 ≤ b
              · rw [decide_eq_true hb, Bool.true_and] at hinv
                exact .inr (.inr ⟨rfl, hb, hinv⟩)
              · exact .inr (.inl ⟨rfl, by omega⟩)
          clear HF2 HVE HI2 HJ2 hinv
          rcases hwhy with hv | ⟨hv, hb⟩ | ⟨hv, hb, haf⟩
          · rw [hv] at HV
            clear hv
            go_wp2_with fail
            refine (HV.out _).mono ?_
            rintro e w2 ⟨rfl, hb2⟩
            obtain ⟨t2, l2, p2, f2, _, b2, z2⟩ := HBLT.out _ hb2
            have HB2 := Lib.hid b2
            have y3 := t2 3
            have y4 := t2 4
            have q0 := (p2 0).trans p0
            have q1 := (p2 1).trans p1
            simp at y3 y4
            clear hb2 t2 l2 p2 b2 x0 x1 x2 x3 x4 l0 l1 lf p0 p1 pf
            go_wp2_with fail
            go_region
            all_goals
              go_wp2
              refine bodyPost_ret (v := .tuple #[.slice none 0 0, posV a b, .int .i64 1]) ?_ rfl ?_
              · simp [results, Tryz.results24, go_sem, q0, q1]
              · rw [HR1.out]
                exact ⟨_, rfl, World.ownsRow_nil _ _ _ _, ((below_drew HB2.out).setCell (by simp) _).setCell (by simp) _⟩
          · rw [hv] at HV
            clear hv
            go_wp2_with fail
            refine (HV.out _).mono ?_
            rintro e w2 ⟨rfl, hb2⟩
            obtain ⟨t2, l2, p2, f2, _, b2, z2⟩ := HBLT.out _ hb2
            have HB2 := Lib.hid b2
            have y3 := t2 3
            have y4 := t2 4
            have q0 := (p2 0).trans p0
            have q1 := (p2 1).trans p1
            simp at y3 y4
            clear hb2 t2 l2 p2 b2 x0 x1 x2 x3 x4 l0 l1 lf p0 p1 pf
            go_wp2_with fail
            go_region
            all_goals
              go_wp2
              refine bodyPost_ret (v := .tuple #[.slice none 0 0, posV a b, .int .i64 1]) ?_ rfl ?_
              · simp [results, Tryz.results24, go_sem, q0, q1]
              · rw [HR1.out]
                exact ⟨_, rfl, World.ownsRow_nil _ _ _ _, ((below_drew HB2.out).setCell (by simp) _).setCell (by simp) _⟩
          · rw [hv] at HV
            rw [haf] at HAF
            clear hv haf
            go_wp2_with fail
            refine (HV.out _).mono ?_
            rintro e w2 ⟨rfl, hb2⟩
            obtain ⟨t2, l2, p2, f2, _, b2, z2⟩ := HBLT.out _ hb2
            have HB2 := Lib.hid hb2
            have y3 := t2 3
            have y4 := t2 4
            have m0 := (l2 0).trans l0
            have m1 := (l2 1).trans l1
            simp at y3 y4
            clear hb2 t2 l2 p2 b2 f2 x0 x1 x2 x3 x4 l0 l1 lf
            go_wp2_with fail
            refine (HAF.out _).mono ?_
            rintro e w3 ⟨rfl, hb3⟩
            have hb3 := HB2.out.trans (hb3.mono HB2.out.size)
            obtain ⟨t2, l2, p2, f2, _, b2, z3⟩ := HBLT.out _ hb3
            have HB3 := Lib.hid b2
            have y3 := t2 3
            have y4 := t2 4
            have q0 := (p2 0).trans p0
            have q1 := (p2 1).trans p1
            simp at y3 y4
            clear hb3 t2 l2 p2 b2 p0 p1 pf m0 m1 HB2
            go_wp2_with fail
            go_region
            all_goals
              go_wp2
              refine bodyPost_ret (v := .tuple #[.slice none 0 0, posV a b, .int .i64 1]) ?_ rfl ?_
              · simp [results, Tryz.results24, go_sem, q0, q1]
              · rw [HR1.out]
                exact ⟨_, rfl, World.ownsRow_nil _ _ _ _, ((below_drew HB3.out).setCell (by simp) _).setCell (by simp) _⟩
        · have hval : valT t = true ∧ 1 ≤ b ∧ aftB (r1, r2) (a, b) = true := by
            have h0 : (valT t && isAft (a, b) s.last) = true := by
              cases h : (valT t && isAft (a, b) s.last)
              · exact absurd h hinv
              · rfl
            rw [HVE.out] at h0
            simp only [Bool.and_eq_true, decide_eq_true_eq] at h0
            exact ⟨h0.1, h0.2.1, h0.2.2⟩
          obtain ⟨hv, hb, haf⟩ := hval
          rw [hv] at HV
          rw [haf] at HAF
          have HINV := Lib.hid hinv
          have hLg : ¬ w1.heap.size = w.heap.size + 1 + 1 := fun q => by
            obtain ⟨_, _, h⟩ := HB.out
            exact h.ng (.inr q.symm)
          have hgL : ¬ w.heap.size + 1 + 1 = w1.heap.size := fun q => hLg q.symm
          have hgr : ¬ w.heap.size + 1 + 1 = wr.heap.size := by omega
          have hLr : ¬ w1.heap.size = wr.heap.size := by omega
          clear hinv hv haf HVE
          go_wp2_with fail
          refine (HV.out _).mono ?_
          rintro e w2 ⟨rfl, hb2⟩
          obtain ⟨t2, l2, p2, f2, _, b2, z2⟩ := HBLT.out _ hb2
          have HB2 := Lib.hid hb2
          have y3 := t2 3
          have y4 := t2 4
          have m0 := (l2 0).trans l0
          have m1 := (l2 1).trans l1
          simp at y3 y4
          clear hb2 t2 l2 p2 b2 f2 x0 x1 x2 x3 x4
          go_wp2_with fail
          refine (HAF.out _).mono ?_
          rintro e w3 ⟨rfl, hb3⟩
          have hb3 := HB2.out.trans (hb3.mono HB2.out.size)
          have HB3 := Lib.hid hb3
          have HR3 := Lib.hid (HBT.out.below hb3)
          obtain ⟨t2, l2, p2, f2, fL, b2, z3⟩ := HBLT.out _ hb3
          have y0 := t2 0
          have y1 := t2 1
          have y2 := t2 2
          have y3 := t2 3
          have y4 := t2 4
          have m0 := (l2 0).trans l0
          have m1 := (l2 1).trans l1
          simp at y0 y1 y2 y3 y4
          obtain ⟨c2, c3, c4, c5, _⟩ := HR3.out.cells
          have q0 := (p2 0).trans p0
          have q1 := (p2 1).trans p1
          have HB3b := Lib.hid b2
          have QF := Lib.hid f2
          clear hb3 t2 l2 p2 b2 f2 p0 p1 pf HB2 z2
          obtain ⟨fe, hfe⟩ : ∃ fe : Bool, fe = (((k : Int) == 0) && (b != 1)) := ⟨_, rfl⟩
          have HFE := Lib.hid hfe
          clear hfe
          go_upto_region 11 with fail
          go_cut [63] (fun s63 wx => s63 = .bool fe ∧ w3 = wx)
          case first =>
            rcases HKK.out with hk0 | hk0
            all_goals
              go_wp2_with fail
              go_meet
              case rel => exact ⟨by rw [HFE.out, hk0]; simp, rfl⟩
          case rest =>
            obtain ⟨rfl, rfl⟩ := hcut
            cases fe
            case true =>
              have HR1 : Hid (R = ([], (a, b), 3)) := by
                have hk1 : k = 0 := by
                  have := HFE.out
                  cases hz : ((k : Int) == 0)
                  · rw [hz] at this; simp at this
                  · have := beq_iff_eq.1 hz; omega
                have hb1 : b ≠ 1 := by
                  have := HFE.out
                  cases hz : (b != 1)
                  · rw [hz, Bool.and_false] at this; cases this
                  · simpa using hz
                have hs0 := HJ.out.zero hk1
                have h1 : addL s (t, (a, b)) = (3, s) := by
                  unfold addL; rw [if_neg HINV.out, if_pos (by rw [hs0]; rfl), if_pos hb1]
                unfold Hid; rw [HF2.out, h1]; rfl
              clear HF2 HI2 HJ2
              have qf := QF.out
              go_wp2_with fail
              go_region
              all_goals
                go_wp2
                refine bodyPost_ret (v := .tuple #[.slice none 0 0, posV a b, .int .i64 3]) ?_ rfl ?_
                · simp [results, Tryz.results24, go_sem, q0, q1]
                · rw [HR1.out]
                  exact ⟨_, rfl, World.ownsRow_nil _ _ _ _, ((below_drew HB3b.out).setCell (by simp) _).setCell (by simp) _⟩
            case false =>
              go_upto_block 2 with fail
              go_cut [] (fun wx => JRel ((w3.setCell ⟨w1.heap.size, 0, none⟩ (.int .i64 a)).setCell ⟨w1.heap.size, 1, none⟩ (.int .i64 b)) (orOne (orOne (· < w.heap.size + 1) w1.heap.size) wr.heap.size) (w.heap.size + 1 + 1) s (t, (a, b)) wx)
              case first =>
                obtain ⟨bg, hbg⟩ : ∃ bg : Bool, bg = (!decide (s.item = (0, 0)) || (!decide (s.line = (0, 0)) && st)) := ⟨_, rfl⟩
                have HBG := Lib.hid hbg
                have HR4 := Lib.hid ((HR3.out.setP (.inl (.inr rfl)) 0 (.int .i64 a)).setP (.inl (.inr rfl)) 1 (.int .i64 b))
                have hkm : k ≤ 200000000 := by omega
                clear hbg
                go_upto_region 15 with fail
                go_cut [72] (fun s72 wx => s72 = .bool bg ∧ (w3.setCell ⟨w1.heap.size, 0, none⟩ (.int .i64 a)).setCell ⟨w1.heap.size, 1, none⟩ (.int .i64 b) = wx)
                case first =>
                  rcases pair_zero s.item with hit | ⟨hit, hit2 | ⟨hit2, hit3⟩⟩
                  · rcases pair_zero s.line with hli | ⟨hli, hli2 | ⟨hli2, hli3⟩⟩
                    · rw [hit] at c2 c3
                      rw [hli] at c4 c5
                      have HX : Hid (bg = false) := by unfold Hid; rw [HBG.out, hit, hli]; rfl
                      clear hit hli
                      go_wp2_with fail
                      go_meet
                      case rel => exact ⟨by rw [HX.out], rfl⟩
                    · rw [hit] at c2 c3
                      have HX : Hid (bg = st) := by unfold Hid; rw [HBG.out, hit, decide_eq_false hli]; rfl
                      clear hit hli
                      go_wp2_with fail
                      go_meet
                      case rel => exact ⟨by rw [HX.out], rfl⟩
                    · rw [hit] at c2 c3
                      have HX : Hid (bg = st) := by unfold Hid; rw [HBG.out, hit, decide_eq_false hli]; rfl
                      clear hit hli
                      go_wp2_with fail
                      go_meet
                      case rel => exact ⟨by rw [HX.out], rfl⟩
                  all_goals
                    have HX : Hid (bg = true) := by unfold Hid; rw [HBG.out, decide_eq_false hit]; rfl
                    clear hit
                    go_wp2_with fail
                    go_meet
                    case rel => exact ⟨by rw [HX.out], rfl⟩
                case rest =>
                  obtain ⟨rfl, rfl⟩ := hcut
                  cases bg
                  case false =>
                    obtain ⟨s2, hadd, hol, hpl⟩ := plain_ok HI.out HJ.out HINV.out hb hkm (by rw [HRL.out]; exact HST.out) HFE.out HBG.out (orOne (orOne (· < w.heap.size + 1) w1.heap.size) wr.heap.size) (w.heap.size + 1 + 1)
                    have HPL := Lib.hid hpl
                    have HADD := Lib.hid hadd
                    clear hadd hpl
                    go_wp2_with fail
                    refine (HPL.out _ HR4.out).mono ?_
                    rintro e w6 ⟨rfl, hB6, hK6⟩
                    have HB6 := Lib.hid hB6
                    have HK6 := Lib.hid hK6
                    clear hB6 hK6
                    go_wp2_with fail
                    go_meet
                    case rel => exact ⟨s2, HADD.out, hol, HB6.out, HK6.out⟩
                  case true =>
                    obtain ⟨hadd, ⟨x, r, hcx, hr64⟩, ho9, hbl⟩ := begin_ok HI.out HJ.out HINV.out hkm (by rw [HRL.out]; exact HST.out) HBG.out
                    obtain ⟨⟨er, o2, cc2⟩, hbeg⟩ : ∃ q, begL s.out s.cols (t, (a, b)) = q := ⟨_, rfl⟩
                    rw [hbeg] at hadd hbl
                    simp only at hadd hbl
                    obtain ⟨ln, hln⟩ : ∃ ln : Int × Int, (if s.item = (0, 0) then (0, 0) else s.line) = ln := ⟨_, rfl⟩
                    rw [hln] at hadd
                    have HADD := Lib.hid hadd
                    have HBGN : Hid (∀ W, RSt W (orOne (orOne (· < w.heap.size + 1) w1.heap.size) wr.heap.size) (w.heap.size + 1 + 1) { s with item := (0, 0), line := ln } → Calls Tryz.prog 52 #[.pointer (some ⟨w.heap.size + 1 + 1, 0, none⟩), tkV t a b] W (RBegPost W (orOne (orOne (· < w.heap.size + 1) w1.heap.size) wr.heap.size) (w.heap.size + 1 + 1) { s with item := (0, 0), line := ln } (er, o2, cc2))) := fun W h => by
                      rw [← hbeg]; exact rbegin_any W _ _ { s with item := (0, 0), line := ln } t a b x r h hcx ho9 hr64
                    clear hadd hbeg hcx
                    have K4 : Hid (Keep (· < w.heap.size + 1) w3 ((w3.setCell ⟨w1.heap.size, 0, none⟩ (.int .i64 a)).setCell ⟨w1.heap.size, 1, none⟩ (.int .i64 b))) :=
                      ((Keep.refl (· < w.heap.size + 1) w3).setCell (p := ⟨w1.heap.size, 0, none⟩) (by show ¬ w1.heap.size < w.heap.size + 1; omega) _).setCell (p := ⟨w1.heap.size, 1, none⟩) (by show ¬ w1.heap.size < w.heap.size + 1; omega) _
                    have fg := HR4.out.cells.2.2.2.2
                    rcases pair_zero s.item with hit | ⟨hit, hit2⟩
                    case' inl =>
                      rw [if_pos hit] at hln
                      subst hln
                      rw [hit] at c2 c3
                      have HW5 := Lib.hid (And.intro ((HR4.out.line_ 0 0).1.item_ 0 0).1 ((HR4.out.line_ 0 0).2.trans ((HR4.out.line_ 0 0).1.item_ 0 0).2))
                      clear hit
                    case' inr =>
                      rw [if_neg hit] at hln
                      subst hln
                      have HW5 := Lib.hid (HR4.out.item_ 0 0)
                      clear hit
                      rcases hit2 with hit2 | ⟨hit2, hit3⟩
                    all_goals
                      go_wp2_with fail
                      refine (HBGN.out _ HW5.out.1).mono ?_
                      rintro e w6 ⟨rfl, hB6, hK6⟩
                      have HB6 := Lib.hid hB6
                      have HK6 := Lib.hid (HW5.out.2.trans hK6)
                      clear hB6 hK6 HW5
                      by_cases hz : er = 0
                      · have hz1 : (er != 0) = false := by simp [hz]
                        have HADD2 : Hid (addL s (t, (a, b)) = (0, finL o2 cc2 (0, 0) _ (t, (a, b)))) := HADD.out.trans (if_neg (fun q => q hz))
                        have HZ := Lib.hid hz
                        clear hz
                        go_wp2_with fail
                        go_meet
                        case rel => exact ⟨_, HADD2.out, hbl, HB6.out, HK6.out⟩
                      · have hz1 : (er != 0) = true := by simp [hz]
                        have HR1 : Hid (R = ([], (a, b), er)) := by
                          unfold Hid; rw [HF2.out, HADD.out, if_pos hz]; exact if_pos hz
                        have K6 := Lib.hid (K4.out.trans (HK6.out.mono (fun j hj => .inl (.inl hj))))
                        have qf : ∀ i, w6.frozen? ⟨w.heap.size, i, none⟩ = false := fun i => (K6.out.frozen (by omega) i).trans (QF.out i)
                        have q0 := (K6.out.cell (by omega) 0).trans q0
                        have q1 := (K6.out.cell (by omega) 1).trans q1
                        have y3 : w6.cell? ⟨wr.heap.size, 3, none⟩ = some (.int .i64 a) := (HK6.out.cell (.inr rfl) 3).trans ((by rw [World.cell?_setCell_other _ _ _ _ (by first | (simp; done) | (simp; omega)), World.cell?_setCell_other _ _ _ _ (by first | (simp; done) | (simp; omega))]; exact y3))
                        have y4 : w6.cell? ⟨wr.heap.size, 4, none⟩ = some (.int .i64 b) := (HK6.out.cell (.inr rfl) 4).trans ((by rw [World.cell?_setCell_other _ _ _ _ (by first | (simp; done) | (simp; omega)), World.cell?_setCell_other _ _ _ _ (by first | (simp; done) | (simp; omega))]; exact y4))
                        have hbx : wr.heap.size < w6.heap.size := HB6.out.lt _ (.inr rfl)
                        have HZ := Lib.hid hz
                        clear hz
                        go_wp2_with fail
                        go_region
                        all_goals
                          go_wp2
                          refine bodyPost_ret (v := .tuple #[.slice none 0 0, posV a b, .int .i64 er]) ?_ rfl ?_
                          · simp [results, Tryz.results24, go_sem, q0, q1]
                          · rw [HR1.out]
                            exact ⟨_, rfl, World.ownsRow_nil _ _ _ _, ((below_drew (HB3b.out.trans (K6.out.mono (fun j hj => Nat.lt_succ_of_lt hj)).to_below)).setCell (by simp) _).setCell (by simp) _⟩
              case rest =>
                obtain ⟨s2, hadd, hol, hB6, hK6⟩ := hcut
                generalize wc = w6 at *
                have HB6 := Lib.hid hB6
                have HT6 : Hid (∀ i, w6.cell? ⟨wr.heap.size, i, none⟩ = (#[.int .i64 t.kind, .int .i64 t.num, .string (S t.str), .int .i64 a, .int .i64 b] : Array Value)[i]?) := fun i => by
                  refine (hK6.cell (.inr rfl) i).trans ?_
                  have h3 := (HBLT.out _ HB3.out).1 i
                  refine Eq.trans (World.cell?_of_block ?_) h3
                  show ((w3.setCell _ _).setCell _ _).heap[wr.heap.size]? = _
                  rw [Below.heap_setCell _ _ _ _ (by show wr.heap.size ≠ w1.heap.size; omega), Below.heap_setCell _ _ _ _ (by show wr.heap.size ≠ w1.heap.size; omega)]
                have hK3 : Keep (· < w.heap.size + 1) (w.alloc (.cells #[.int .i64 0, .int .i64 0] 25)) w3 := (HK.out.alloc (fun j hj => by simpa using hj) _).trans (Keep.below HB3.out (fun j hj => by simp; omega))
                have HK6 : Hid (Keep (· < w.heap.size + 1) (w.alloc (.cells #[.int .i64 0, .int .i64 0] 25)) w6) := ((hK3.setCell (p := ⟨w1.heap.size, 0, none⟩) (by show ¬ w1.heap.size < w.heap.size + 1; omega) _).setCell (p := ⟨w1.heap.size, 1, none⟩) (by show ¬ w1.heap.size < w.heap.size + 1; omega) _).trans (hK6.mono (fun j hj => .inl (.inl hj)))
                have HL6 : Hid (Blk w6 w1.heap.size 25 #[.int .i64 a, .int .i64 b]) := by
                  have h3 : Blk w3 w1.heap.size 25 _ := (HB3.out.block _ (by simp; omega)).trans (HLB.out.alloc _)
                  exact Blk.keep ((h3.set_ 0 (.int .i64 a)).set_ 1 (.int .i64 b)) hK6 (.inl (.inr rfl))
                have HF5 : Hid (insL ts = insF (finL s2.out s2.cols s2.item s2.line (t, (a, b))) (ts.drop (k + 1))) := by
                  unfold Hid; rw [hIR.out, HF2.out, hadd]; rfl
                have HI5 : Hid (LInv (k + 1) (finL s2.out s2.cols s2.item s2.line (t, (a, b)))) := by have := HI2.out; rw [hadd] at this; exact this rfl
                have HJ5 : Hid (RInv (k + 1) (finL s2.out s2.cols s2.item s2.line (t, (a, b)))) := by have := HJ2.out; rw [hadd] at this; exact this rfl
                clear hadd hK3 hB6 hK6 y0 y1 y2 y3 y4 m0 m1 c2 c3 c4 c5 fL l0 l1 lf q0 q1
                rename_i K0 hK0
                refine hK0 _ _ (Code.wp_mono (ends_imp _) (rtail_any w6 (orOne (orOne (· < w.heap.size + 1) w1.heap.size) wr.heap.size) _ wr.heap.size s2 t a b HB6.out (.inr rfl) HT6.out hol _ _ _ _ _ _ _ _ _ _ _ _ _ _ _ _ _ _ _ _ _ _ _ _ _ _ _ _ _ _ _ _ _ _ _ _ _ _ _ _ _ _ _ _ _ _ _ _ _ _ _ _ _ _ _ _ _ _ _ _ _ _ _ _ _ _ _ _ _ _ _ _ _ _ _ _ _ _ _ _ _ _ _ _ _ _ _ _ _ _ _ _ _ _ _ _ _ _ _ _ _ _ _ _ _ _ _ _ _ _ _ _ _ _ _ _ _ _ _ _ _ _ _ _ _ _ _ _ _ _ _ _ _ _ _ _ _ _ _ _ _ _ _ _ _ _ _ _ _ _ _ _ _ _ _ _ _ _ _ _ _ _ _ _ _ _ _ _ _ _ _ _ _ _ _ _ _ _ _ _ _ _ _ _ _ _ _ _ _ _ _ _ _ _ _ ?_))
                intro y112 y113 y114 y115 y116 y117 y118 y119 y120 y121 y122 y123 y124 y125 y126 y127 y128 y129 y130 y131 y132 y133 y134 y135 y136 y137 y138 y139 y140 y141 y142 w9 h9 k9
                have HEND : Hid (RIRel w w1.heap.size ts (.int .i64 ((k + 1 : Nat) : Int)) w9) :=
                  ⟨k + 1, _, by omega, rfl, HI5.out, HJ5.out, h9.mono (fun _ q => .inl q), HK6.out.trans (k9.mono (fun _ q => .inl (.inl q))), by rw [lastR_succ]; exact Blk.keep HL6.out k9 (.inl (.inr rfl)), HF5.out⟩
                clear h9 k9
                go_wp2_with fail
                go_roundw
                case rel => exact HEND.out
                case measure => simp [intOf]; omega
    · have hkn : k = ts.length := by omega
      subst hkn
      have HF2 : Hid (R = endL s) := by unfold Hid; rw [← hIR.out, HF.out, List.drop_length]; rfl
      rename_i K0 hK0
      have HK0 := Lib.hid hK0
      clear hK0 p0 p1 pf l0 l1 lf
      go_wp2_with fail
      exact HK0.out _ _ (rend_any w wr w1.heap.size ts.length s R HF2.out HI.out hm (fun h1 h2 => HJ.out.both h1 h2) HB.out HK.out _ _ _ _ _ _ _ _ _ _ _ _ _ _ _ _ _ _ _ _ _ _ _ _ _ _ _ _ _ _ _ _ _ _ _ _ _ _ _ _ _ _ _ _ _ _ _ _ _ _ _ _ _ _ _ _ _ _ _ _ _ _ _ _ _ _ _ _ _ _ _ _ _ _ _ _ _ _ _ _ _ _ _ _ _ _ _ _ _ _ _ _ _ _ _ _ _ _ _ _ _ _ _ _ _ _ _ _ _ _ _ _ _ _ _ _ _ _ _ _ _ _ _ _ _ _ _ _ _ _ _ _ _ _ _ _ _ _ _ _ _ _ _ _ _ _ _ _ _ _ _ _ _ _ _ _ _ _ _ _ _ _ _ _ _ _ _ _ _ _ _ _ _ _ _ _ _ _ _ _ _ _ _ _ _ _ _ _ _ _ _ _ _ _)

end Go.Proofs.YtkjjagmpnnnimaaGreatDoor

namespace Go.Proofs.YtkjjagmpnnnimaaGreatDoor
open Go.RowKit M

set_option maxRecDepth 100000 in
set_option maxHeartbeats 1000000 in
theorem equal_toks (ts : List Tok) (n : Nat) (hn : n = ts.length) (hm : n ≤ 9223372036854775806) (A1 A2 : Option Addr) (c1 c2 : Nat) (w : World)
    (h1 : InToks w A1 ts) (h2 : InToks w A2 ts) :
    Calls Tryz.prog 25 #[.slice A1 n c1, .slice A2 n c2] w fun e w' => e = .returned (.bool true) ∧ ∃ m, w' = w.drewN m := by
  by_cases h0 : n = 0
  · subst h0
    clear h1 h2 hn
    go_enter Tryz.func25, Tryz.ntmps25
    go_wp2
    go_loopw [5] (fun t wr => t = .int .i64 0 ∧ Hid (∃ m, wr = w.drewN m)) (fun _ _ => 0)
    case atStart => exact ⟨rfl, 0, rfl⟩
    case round =>
      obtain ⟨rfl, hW⟩ := hrel
      obtain ⟨m, rfl⟩ := hW
      go_wp2
      go_ret
      exact ⟨rfl, m, rfl⟩
  · rcases h1 with h1 | ⟨g1, f1, rfl, _, HC1⟩
    · rw [h1] at hn; simp at hn; omega
    rcases h2 with h2 | ⟨g2, f2, rfl, _, HC2⟩
    · rw [h2] at hn; simp at hn; omega
    have HC1 := Lib.hid HC1
    have HC2 := Lib.hid HC2
    have HN := Lib.hid hn
    clear hn
    go_enter Tryz.func25, Tryz.ntmps25
    go_wp2
    go_loopw [5] (fun t wr => ∃ k : Nat, k ≤ n ∧ t = .int .i64 k ∧ Hid (∃ m, wr = w.drewN m)) (fun t _ => n - (intOf t).toNat)
    case atStart => exact ⟨0, by omega, rfl, 0, rfl⟩
    case round =>
      obtain ⟨k, hk, rfl, hW⟩ := hrel
      obtain ⟨m, rfl⟩ := hW
      by_cases hlt : k < n
      · obtain ⟨t, ht⟩ : ∃ t, ts[k]? = some t := by
          have : k < ts.length := by rw [← HN.out]; exact hlt
          exact ⟨ts[k], List.getElem?_eq_getElem this⟩
        obtain ⟨⟨kd, nu, st, er⟩, a, b⟩ := t
        have x0 := HC1.out k _ ht 0 _ rfl
        have x1 := HC1.out k _ ht 1 _ rfl
        have x2 := HC1.out k _ ht 2 _ rfl
        have x3 := HC1.out k _ ht 3 _ rfl
        have x4 := HC1.out k _ ht 4 _ rfl
        have y0 := HC2.out k _ ht 0 _ rfl
        have y1 := HC2.out k _ ht 1 _ rfl
        have y2 := HC2.out k _ ht 2 _ rfl
        have y3 := HC2.out k _ ht 3 _ rfl
        have y4 := HC2.out k _ ht 4 _ rfl
        simp only [Nat.add_zero] at x0 y0
        clear ht
        go_wp2
        go_quiet (fail)
        go_wp2
        go_roundw
        case rel => exact ⟨k + 1, by omega, by go_num, _, rfl⟩
        case measure => simp [intOf]; omega
      · go_wp2
        go_ret
        exact ⟨rfl, m, rfl⟩

end Go.Proofs.YtkjjagmpnnnimaaGreatDoor

namespace Go.Proofs.YtkjjagmpnnnimaaGreatDoor.M
open Go

theorem itemR_len (l : Bs) : (itemR l).str.length ≤ l.length := by
  unfold itemR
  split
  · have hw := wordN_le l
    have ht : (l.take (wordN l)).length ≤ l.length := by rw [List.length_take]; omega
    unfold wordR
    split
    · unfold intR
      split
      · simp
      · split
        · simp
        · split <;> simp
    · split
      · exact ht
      · split
        · exact ht
        · simp
  · split
    · exact symB_len l
    · simp
theorem scF_str (n f : Nat) : ∀ (l : Bs) (p : Int × Int) (ts : List Tok), l.length ≤ n → (∀ t ∈ ts, t.1.str.length ≤ n) → ∀ t ∈ (scF f l p ts).1, t.1.str.length ≤ n := by
  induction f with
  | zero => intro l p ts _ _ t ht; simp [scF] at ht
  | succ f ih =>
    intro l p ts hl h t ht
    rw [scF_step] at ht
    by_cases h1 : (sk l).2 = false
    · rw [if_pos h1] at ht; simp at ht
    rw [if_neg h1] at ht
    by_cases h2 : l.drop (sk l).1 = []
    · rw [if_pos h2] at ht; exact h t ht
    rw [if_neg h2] at ht
    by_cases h3 : itErr (itemR (l.drop (sk l).1)) ts.length ≠ 0
    · rw [if_pos h3] at ht; simp at ht
    rw [if_neg h3] at ht
    refine ih _ _ _ ?_ ?_ t ht
    · simp only [List.length_drop]; omega
    · intro u hu
      rcases List.mem_append.1 hu with hu | hu
      · exact h u hu
      · rw [List.mem_singleton] at hu
        subst hu
        have := itemR_len (l.drop (sk l).1)
        simp only [List.length_drop] at this
        show (itemR (l.drop (sk l).1)).str.length ≤ n
        omega
theorem scan_str (l : Bs) : ∀ t ∈ (scan l).1, t.1.str.length ≤ 65536 := by
  unfold scan
  by_cases h : 65536 < l.length
  · rw [if_pos h]; intro t ht; simp at ht
  · rw [if_neg h]
    exact scF_str 65536 _ l _ [] (by omega) (by intro t ht; simp at ht)

theorem insF_len : ∀ (l : List Tok) (k : Nat) (s : LSt), LInv k s → (insF s l).1.length ≤ 4 * (k + l.length) + 2 := by
  intro l
  induction l with
  | nil =>
    intro k s h
    show (endL s).1.length ≤ _
    have := h.out
    unfold endL
    split
    · simp
    · split
      · simp
      · simp; omega
  | cons t r ih =>
    intro k s h
    rw [insF_cons]
    by_cases h1 : (addL s t).1 ≠ 0
    · rw [if_pos h1]; simp
    · rw [if_neg h1]
      have := ih (k + 1) _ (add_inv t h (Classical.byContradiction h1))
      simp only [List.length_cons]; omega
theorem insL_len (l : List Tok) : (insL l).1.length ≤ 4 * l.length + 2 := by
  have := insF_len l 0 startL start_inv
  rw [Nat.zero_add] at this
  exact this

def letterK (k : Int) : UInt8 := if k = 5 then 79 else if k = 6 then 83 else if k = 7 then 67 else 46
def kindsB (ts : List Tok) : Bs := ts.map fun t => letterK t.1.kind
theorem kinds_next (ts : List Tok) (k : Nat) (t : Tok) (h : ts[k]? = some t) : kindsB (ts.take (k + 1)) = kindsB (ts.take k) ++ [letterK t.1.kind] := by
  unfold kindsB
  rw [List.take_add_one, h]; simp

def src1 : Bs := [102, 32, 61, 32, 108, 101, 116, 32, 120, 32, 61, 32, 49, 10, 32, 32, 32, 32, 32, 32, 32, 32, 121, 32, 61, 32, 50, 10, 32, 32, 32, 32, 119, 105, 116, 104, 105, 110, 32, 120, 10, 103, 32, 61, 32, 51]
theorem src1_ok : (insL (scan src1).1).2 = ((0, 0), 0) ∧ kindsB (insL (scan src1).1).1 = [79, 46, 46, 46, 79, 46, 46, 46, 83, 46, 46, 46, 67, 46, 46, 83, 46, 46, 46, 67] := by
  constructor <;> decide +kernel
theorem src2_ok : (insL (scan [32, 102, 32, 61, 32, 49]).1) = ([], (1, 2), 3) := by
  have h : (insL (scan [32, 102, 32, 61, 32, 49]).1).2 = ((1, 2), 3) := by decide +kernel
  have h1 := insF_err (scan [32, 102, 32, 61, 32, 49]).1 startL (by show (insL (scan [32, 102, 32, 61, 32, 49]).1).2.2 ≠ 0; rw [h]; decide)
  exact Prod.ext h1 h

end Go.Proofs.YtkjjagmpnnnimaaGreatDoor.M
