/- The program's Insert returns what the model says, at every list of tokens. Conditions: at most two hundred million tokens, strings of at most 2^47 bytes; strconv.ErrRange holds an interface value. -/
import Derived.Test.YtoogbgmneabfnaaDoorG16
namespace Go.Proofs.YtoogbgmneabfnaaDoor
open Go.RowKit M

/-- what holds at each round's head of Insert's loop -/
def IRel (w : World) (ts : List Tok) (i : Value) (wr : World) : Prop :=
  ∃ (k : Nat) (s : LSt), k ≤ ts.length ∧ i = .int .i64 k ∧ LInv k s ∧ BSt wr (· < w.heap.size + 1) (w.heap.size + 1) s ∧
    Keep (· < w.heap.size + 1) (w.alloc (.cells #[.int .i64 0, .int .i64 0] 29)) wr ∧ insL ts = insF s (ts.drop k)
/-- closing the j outermost blocks that are left -/
def EndS (s : LSt) (j : Nat) : LSt := { s with out := s.out ++ List.replicate j (mkT 7 (0, 0)), cols := s.cols.drop j }
theorem owns_from {w : World} {b B : Nat} {e : TypeId} {z : Nat} {v : Value} {n : Nat} {xs : List Value} (h : w.ownsRow b e z v n xs) (hp : ∀ k, v.ownBlock = some k → ¬ k < B) : w.ownsRow B e z v n xs := by
  obtain ⟨h1, h2⟩ := h
  refine ⟨h1, ?_⟩
  rcases h2 with h2 | ⟨g, cap, cur, rfl, a, c, d⟩
  · exact .inl h2
  · exact .inr ⟨g, cap, cur, rfl, by have := hp g (by simp [Value.ownBlock]); omega, c, d⟩

theorem endS_step (s : LSt) (j : Nat) (x : Int) (r : List Int) (h : s.cols.drop j = x :: r) : ({ EndS s j with out := (EndS s j).out ++ [mkT 7 (0, 0)], cols := r } : LSt) = EndS s (j + 1) := by
  have h2 : s.cols.drop (j + 1) = r := by rw [← List.drop_drop, h]; rfl
  unfold EndS
  simp only
  rw [h2, List.replicate_succ', List.append_assoc]
theorem endL_wait {s : LSt} (h : waitL s ≠ (0, 0)) : endL s = ([], waitL s, 3) := by
  unfold endL waitL at *
  by_cases h1 : s.line ≠ (0, 0)
  · rw [if_pos h1, if_pos h1]
  · rw [if_neg h1] at h ⊢
    rw [if_neg h1, if_pos h]
theorem endL_done {s : LSt} (h : waitL s = (0, 0)) : endL s = (s.out ++ List.replicate s.cols.length (mkT 7 (0, 0)), (0, 0), 0) := by
  unfold endL waitL at *
  by_cases h1 : s.line ≠ (0, 0)
  · rw [if_pos h1] at h; exact absurd h h1
  · rw [if_neg h1] at h ⊢
    rw [if_neg (fun q => q h)]

set_option maxRecDepth 100000 in
set_option maxHeartbeats 6400000 in
theorem insert_all (w : World) (A : Option Addr) (n c : Nat) (ts : List Tok) (hn : n = ts.length) (hA : InToks w A ts) (hr : RangeVar w) (hm : ts.length ≤ 200000000) (hs : ∀ t ∈ ts, t.1.str.length ≤ 140737488355328) :
    Calls Tryd.prog 9 #[.slice A n c] w (ScanPost (insL ts) w) := by
  have HA := Lib.hid hA
  have HR := Lib.hid hr
  have HS := Lib.hid hs
  have HRR : Hid (∃ R, insL ts = R) := ⟨_, rfl⟩
  have h0 : IRel w ts (.int .i64 (0 : Nat)) (w.alloc (.cells #[.int .i64 0, .int .i64 0] 29)) → True := fun _ => trivial
  clear hA hr hs h0
  obtain ⟨R, hR⟩ := HRR.out
  have hIR : Hid (insL ts = R) := hR
  subst hn
  clear HRR hR
  rw [hIR.out]
  go_enter Tryd.func9, Tryd.ntmps9
  go_wp2_with fail
  refine (new_any _).mono ?_
  rintro e w1 ⟨rfl, hB1, hb1⟩
  simp at hB1 hb1
  have HB1 := Lib.hid hB1
  have HK1 : Hid (Keep (· < w.heap.size + 1) (w.alloc (.cells #[.int .i64 0, .int .i64 0] 29)) w1) := ⟨hb1.os, hb1.tape, hb1.output, hb1.size, hb1.block⟩
  clear hB1 hb1
  go_wp2_with fail
  go_loopw [13] (fun i wr => IRel w ts i wr) (fun i _ => ts.length - (intOf i).toNat)
  case atStart => exact ⟨0, startL, by omega, rfl, start_inv, HB1.out, HK1.out, rfl⟩
  case round =>
    obtain ⟨k, s, hk, rfl, hI, hB, hK, hF⟩ := hrel
    have HI := Lib.hid hI
    have HB := Lib.hid hB
    have HK := Lib.hid hK
    have HF := Lib.hid hF
    have hbelow : Below w.heap.size w wr := by
      have h1 : Keep (· < w.heap.size) w (w.alloc (.cells #[.int .i64 0, .int .i64 0] 29)) := (Keep.refl _ w).alloc (fun _ q => q) _
      exact (h1.trans (hK.mono fun k hk => by omega)).to_below
    have HBL := Lib.hid hbelow
    have hp0 : wr.cell? ⟨w.heap.size, 0, none⟩ = some (.int .i64 0) := (hK.cell (by omega) 0).trans (cell_of_row _ _ 0 _ _ _ (heap_alloc_new w _))
    have hp1 : wr.cell? ⟨w.heap.size, 1, none⟩ = some (.int .i64 0) := (hK.cell (by omega) 1).trans (cell_of_row _ _ 1 _ _ _ (heap_alloc_new w _))
    have hpf : ∀ i, wr.frozen? ⟨w.heap.size, i, none⟩ = false := fun i => (hK.frozen (by omega) i).trans ((Blk.new w 29 #[.int .i64 0, .int .i64 0]).frozen i)
    have hwl : w.heap.size < wr.heap.size := hB.lt _ (by omega)
    clear hI hB hK hF hbelow
    by_cases hlt : k < ts.length
    · obtain ⟨⟨t, a, b⟩, ht⟩ : ∃ t, ts[k]? = some t := ⟨ts[k], List.getElem?_eq_getElem hlt⟩
      have htm : t.str.length ≤ 140737488355328 := HS.out _ (List.mem_of_getElem? ht)
      have hdrop : ts.drop k = (t, (a, b)) :: ts.drop (k + 1) := by
        rw [List.drop_eq_getElem_cons hlt]
        have : ts[k] = (t, (a, b)) := by
          have := List.getElem?_eq_getElem hlt
          rw [ht] at this; injection this with this; exact this.symm
        rw [this]
      rcases (HA.out.below HBL.out) with hnil | ⟨bb, off, rfl, hbb, hcell⟩
      · rw [hnil] at hlt; simp at hlt
      have x0 := hcell k _ ht 0 _ rfl
      have x1 := hcell k _ ht 1 _ rfl
      have x2 := hcell k _ ht 2 _ rfl
      have x3 := hcell k _ ht 3 _ rfl
      have x4 := hcell k _ ht 4 _ rfl
      simp only [Nat.add_zero] at x0
      have HADD := Lib.hid (add_any _ _ (w.heap.size + 1) k s t a b (HB.out.more (.cells #[.int .i64 t.kind, .int .i64 t.num, .string (S t.str), .int .i64 a, .int .i64 b] 37)) HI.out (by omega) ((HR.out.below HBL.out).alloc _) htm)
      have HF2 : Hid (insL ts = if (addL s (t, (a, b))).1 ≠ 0 then ([], (a, b), (addL s (t, (a, b))).1) else insF (addL s (t, (a, b))).2 (ts.drop (k + 1))) := by
        unfold Hid; rw [HF.out, hdrop, insF_cons]
      have HI2 := Lib.hid (fun q => add_inv (t, (a, b)) HI.out q)
      generalize addL s (t, (a, b)) = Q at *
      obtain ⟨e, s'⟩ := Q
      simp only at HF2 HI2 HADD
      clear hcell ht hdrop htm HF
      go_wp2_with fail
      refine HADD.out.mono ?_
      rintro e0 w2 ⟨rfl, hB2, hK2⟩
      simp only at hB2
      have y0 : w2.cell? ⟨wr.heap.size, 3, none⟩ = some (.int .i64 a) := box_cell hK2 3
      have y1 : w2.cell? ⟨wr.heap.size, 4, none⟩ = some (.int .i64 b) := box_cell hK2 4
      have HB2 := Lib.hid hB2
      have HK2 : Hid (Keep (· < w.heap.size + 1) wr w2) := keep_box HB.out.lt hK2
      clear hB2 hK2 HADD
      by_cases he : e = 0
      · have HE := Lib.hid he
        have g1 : (e != 0) = false := by simp [he]
        have HF3 : Hid (insL ts = insF s' (ts.drop (k + 1))) := by unfold Hid; rw [HF2.out, if_neg (fun q => q he)]
        clear he HF2
        go_wp2
        go_roundw
        case rel => exact ⟨k + 1, s', by omega, by go_num, HI2.out HE.out, (HB2.out HE.out).mono (fun _ q => .inl q), HK.out.trans HK2.out, HF3.out⟩
        case measure => simp [intOf]; omega
      · have HE := Lib.hid he
        have g1 : (e != 0) = true := by simp [he]
        have HF3 : Hid (R = ([], (a, b), e)) := by unfold Hid; rw [← hIR.out, HF2.out, if_pos he]
        have z0 : w2.cell? ⟨w.heap.size, 0, none⟩ = some (.int .i64 0) := (HK2.out.cell (by omega) 0).trans hp0
        have z1 : w2.cell? ⟨w.heap.size, 1, none⟩ = some (.int .i64 0) := (HK2.out.cell (by omega) 1).trans hp1
        have zf : ∀ i, w2.frozen? ⟨w.heap.size, i, none⟩ = false := fun i => (HK2.out.frozen (by omega) i).trans (hpf i)
        have HB3 : Hid (Below w.heap.size w w2) := HBL.out.trans (Below.mono (B := w.heap.size) (HK2.out.mono (fun _ q => by omega)).to_below (Nat.le_refl _))
        clear he HF2 x0 x1 x2 x3 x4 hp0 hp1 hpf
        go_wp2_with fail
        go_region
        all_goals
          go_wp2
          refine bodyPost_ret (v := .tuple #[.slice none 0 0, posV a b, .int .i64 e]) ?_ rfl ?_
          · simp [results, Tryd.results9, go_sem, z0, z1]
          · rw [HF3.out]
            exact ⟨_, rfl, World.ownsRow_nil _ _ _ _, ((below_drew HB3.out).setCell (by simp) _).setCell (by simp) _⟩
    · have hkn : k = ts.length := by omega
      subst hkn
      have HF2 : Hid (R = endL s) := by unfold Hid; rw [← hIR.out, HF.out, List.drop_length]; rfl
      clear HF
      go_wp2_with fail
      refine (unanswered_any _ _ _ _ HB.out).mono ?_
      rintro e w2 ⟨rfl, hb2⟩
      have HB2 := Lib.hid (HB.out.below hb2)
      have HK2 : Hid (Keep (· < w.heap.size + 1) (w.alloc (.cells #[.int .i64 0, .int .i64 0] 29)) w2) := HK.out.trans (Keep.below hb2 (fun k hk => by omega))
      have hz2 := hb2.size
      have hwl2 : w.heap.size < w2.heap.size := by omega
      have z0 : w2.cell? ⟨w.heap.size, 0, none⟩ = some (.int .i64 0) := (HK2.out.cell (by omega) 0).trans (cell_of_row _ _ 0 _ _ _ (heap_alloc_new w _))
      have z1 : w2.cell? ⟨w.heap.size, 1, none⟩ = some (.int .i64 0) := (HK2.out.cell (by omega) 1).trans (cell_of_row _ _ 1 _ _ _ (heap_alloc_new w _))
      have zf : ∀ i, w2.frozen? ⟨w.heap.size, i, none⟩ = false := fun i => (HK2.out.frozen (by omega) i).trans ((Blk.new w 29 #[.int .i64 0, .int .i64 0]).frozen i)
      have HB3 : Hid (Below w.heap.size w w2) := HBL.out.trans (hb2.mono (by omega))
      have hwait : (waitL s ≠ (0, 0) → R = ([], waitL s, 3)) ∧ (waitL s = (0, 0) → R = (s.out ++ List.replicate s.cols.length (mkT 7 (0, 0)), (0, 0), 0)) :=
        ⟨fun q => HF2.out.trans (endL_wait q), fun q => HF2.out.trans (endL_done q)⟩
      have HWT := Lib.hid hwait
      clear hb2 hwait HF2 hp0 hp1 hpf
      generalize waitL s = W at *
      obtain ⟨p1, p2⟩ := W
      rcases pair_zero (p1, p2) with h1 | ⟨h1, h2⟩
      · have hR2 := Lib.hid (HWT.out.2 h1)
        injection h1 with e1 e2
        subst e1 e2
        clear HWT
        go_wp2_with fail
        go_loopw [] (fun wr => ∃ j, BSt wr (· < w.heap.size + 1) (w.heap.size + 1) (EndS s j) ∧ j ≤ s.cols.length ∧ Keep (· < w.heap.size + 1) (w.alloc (.cells #[.int .i64 0, .int .i64 0] 29)) wr) (fun wr => colN wr (w.heap.size + 1))
        case atStart => exact ⟨0, by have := HB2.out.alloc (.cells #[.int .i64 0, .int .i64 0] 29 (0, 0)); simpa [EndS] using this, by omega, HK2.out.alloc (fun k hk => by simp; omega) _⟩
        case round =>
          obtain ⟨j, hB4, hj, hK4⟩ := hrel
          have HB4 := Lib.hid hB4
          have HK4 := Lib.hid hK4
          have HCN := Lib.hid (colN_is hB4)
          obtain ⟨vt, vc, hBA⟩ := HB4.out
          clear hB4 hK4
          by_cases hjc : j < s.cols.length
          · obtain ⟨x, r, hxr⟩ : ∃ x r, s.cols.drop j = x :: r := by
              cases hd : s.cols.drop j with
              | nil => have := congrArg List.length hd; simp at this; omega
              | cons x r => exact ⟨x, r, rfl⟩
            have hrl : r.length + 1 = s.cols.length - j := by have := congrArg List.length hxr; simpa using this.symm
            have HXR := Lib.hid hxr
            obtain ⟨gc, cap, rfl, _, _, _⟩ := hBA.cform (show (EndS s j).cols = x :: r from hxr)
            have k0 : wr.cell? ⟨w.heap.size + 1, 1, none⟩ = some (.slice (some ⟨gc, 0, none⟩) (r.length + 1 : Nat) cap) := hBA.blk.cell 1
            have HCL := Lib.hid (close_any wr _ (w.heap.size + 1) (EndS s j) 0 0 x r HB4.out hxr (by unfold EndS; simp; have := HI.out.out; omega) (by have := HI.out.size; omega))
            rw [endS_step s j x r hxr] at HCL
            clear hBA hxr
            go_wp2_with fail
            refine HCL.out.mono ?_
            rintro e w5 ⟨rfl, hB5, hK5⟩
            have HB5 := Lib.hid hB5
            have HK5 := Lib.hid (HK4.out.trans hK5)
            have HN5 := Lib.hid (colN_is hB5)
            clear hB5 hK5 HCL
            go_wp2
            go_roundw
            case rel => exact ⟨j + 1, HB5.out, by omega, HK5.out⟩
            case measure => rw [HN5.out, HCN.out]; unfold EndS; simp; omega
          · have hje : j = s.cols.length := by omega
            subst hje
            have hcols : (EndS s s.cols.length).cols = [] := by unfold EndS; simp
            obtain ⟨A5, c5, hv5⟩ := owns_form hBA.rc
            rw [hcols, List.length_nil] at hv5
            subst hv5
            obtain ⟨A6, c6, hv6⟩ := owns_form hBA.rt
            subst hv6
            have k0 : wr.cell? ⟨w.heap.size + 1, 1, none⟩ = some (.slice A5 0 c5) := hBA.blk.cell 1
            have k1 : wr.cell? ⟨w.heap.size + 1, 0, none⟩ = some (.slice A6 (EndS s s.cols.length).out.length c6) := hBA.blk.cell 0
            have y0 : wr.cell? ⟨w.heap.size, 0, none⟩ = some (.int .i64 0) := (HK4.out.cell (by omega) 0).trans (cell_of_row _ _ 0 _ _ _ (heap_alloc_new w _))
            have y1 : wr.cell? ⟨w.heap.size, 1, none⟩ = some (.int .i64 0) := (HK4.out.cell (by omega) 1).trans (cell_of_row _ _ 1 _ _ _ (heap_alloc_new w _))
            have yf : ∀ i, wr.frozen? ⟨w.heap.size, i, none⟩ = false := fun i => (HK4.out.frozen (by omega) i).trans ((Blk.new w 29 #[.int .i64 0, .int .i64 0]).frozen i)
            have HRT := Lib.hid (owns_from hBA.rt (B := w.heap.size) (fun k hk q => hBA.nt k hk (by omega)))
            have hne : (Value.slice A6 (EndS s s.cols.length).out.length c6).ownBlock ≠ some w.heap.size := fun q => hBA.nt _ q (by omega)
            have HNE := Lib.hid hne
            have HB5 : Hid (Below w.heap.size w wr) := ((((Keep.refl (· < w.heap.size) w).alloc (fun _ q => q) _).trans (HK4.out.mono fun k hk => by omega))).to_below
            clear hBA hne hcols
            go_wp2_with fail
            refine bodyPost_ret (v := .tuple #[.slice A6 (EndS s s.cols.length).out.length c6, posV 0 0, .int .i64 0]) ?_ rfl ?_
            · simp [results, Tryd.results9, go_sem, y0, y1]
            · rw [hR2.out]
              refine ⟨.slice A6 (EndS s s.cols.length).out.length c6, rfl, ?_, (HB5.out.setCell (by simp) _).setCell (by simp) _⟩
              exact owns_set (owns_set HRT.out HNE.out _) HNE.out _
      · have hR2 := Lib.hid (HWT.out.1 h1)
        clear HWT h1
        simp only at h2
        rcases h2 with h2 | ⟨h2, h3⟩
        all_goals
          go_wp2_with fail
          go_region
          all_goals
            go_wp2
            refine bodyPost_ret (v := .tuple #[.slice none 0 0, posV p1 p2, .int .i64 3]) ?_ rfl ?_
            · simp [results, Tryd.results9, go_sem, z0, z1, hwl2]
            · rw [hR2.out]
              exact ⟨_, rfl, World.ownsRow_nil _ _ _ _, below_drew (((HB3.out.setCell (p := ⟨w.heap.size, 0, none⟩) (Nat.le_refl _) _).setCell (p := ⟨w.heap.size, 1, none⟩) (Nat.le_refl _) _).alloc (by simp; omega) _)⟩

end Go.Proofs.YtoogbgmneabfnaaDoor
