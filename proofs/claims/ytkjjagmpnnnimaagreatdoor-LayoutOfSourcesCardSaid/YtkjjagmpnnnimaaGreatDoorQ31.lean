/- What the reference's item returns. What the reference's item returns at integers. What the reference's item returns at keywords and names. -/
import Derived.Test.YtkjjagmpnnnimaaGreatDoorQ30
import Derived.Deep.RegionHeld3
namespace Go.Proofs.YtkjjagmpnnnimaaGreatDoor
open Go.RowKit M

/-- what the reference's item returns of an item, its size and its position -/
def ritemV (t : TR) (n : Nat) (p : Int × Int) : Value :=
  if t.err = 0 then .tuple #[tokV t.kind t.num t.str p.1 p.2, .int .i64 n, .int .i64 0] else .tuple #[tokV 0 0 [] 0 0, .int .i64 0, .int .i64 t.err]

def RItemPost (w : World) (v : Value) (e : Ending) (w' : World) : Prop := e = .returned v ∧ Below w.heap.size w w'

/-- symbolAt, with the two cells that the region beside it reads -/
theorem rsym_held (s : ByteArray) (hm : s.size ≤ 65536) (i : Nat) (hi : i ≤ s.size) (g : Nat) (W : World) (hg : g < W.heap.size) (h0 : W.cell? ⟨g, 0, none⟩ = some (.string s)) (h1 : W.cell? ⟨g, 1, none⟩ = some (.int .i64 i)) :
    Calls Tryz.prog 30 #[.string s, .int .i64 i] W fun e w' => e = .returned (.string (S (symB (rest s i)))) ∧ w'.cell? ⟨g, 0, none⟩ = some (.string s) ∧ w'.cell? ⟨g, 1, none⟩ = some (.int .i64 i) ∧ Below W.heap.size W w' :=
  (rsym_loop s hm i hi W).mono fun _ _ ⟨he, hb⟩ => ⟨he, (hb.cell (p := ⟨g, 0, none⟩) hg).trans h0, (hb.cell (p := ⟨g, 1, none⟩) hg).trans h1, hb⟩

set_option maxRecDepth 100000 in
set_option maxHeartbeats 2000000 in
theorem ritem_nosym (w : World) (g : Nat) (s : ByteArray) (i : Nat) (p : Int × Int) (hc : RCur w g s i p) (hm : s.size ≤ 65536) (hi : i < s.size)
    (hl : letterB s[i] = false) (hd : digitB s[i] = false) (hy : symB (rest s i) = []) :
    Calls Tryz.prog 10 #[.pointer (some ⟨g, 0, none⟩)] w (RItemPost w (.tuple #[tokV 0 0 [] 0 0, .int .i64 0, .int .i64 2])) := by
  have HS := Lib.hid (fun W hg h0 h1 => rsym_held s hm i (by omega) g W hg h0 h1)
  rw [hy] at HS
  have hg := hc.lt
  have d0 := hc.c0
  have d1 := hc.c1
  have x0 : ∀ o : Obj, (w.alloc o).cell? ⟨g, 0, none⟩ = some (.string s) := fun o => (RCur.alloc hc o).c0
  have x1 : ∀ o : Obj, (w.alloc o).cell? ⟨g, 1, none⟩ = some (.int .i64 i) := fun o => (RCur.alloc hc o).c1
  have b0 : (0 : Int) ≤ (i : Int) := by omega
  have b1 : (i : Int) < (s.size : Int) := by omega
  clear hc hy
  go_enter Tryz.func10, Tryz.ntmps10
  go_wp2
  go_quiet (fail)
  go_wp2_with (first | (go_at_call 28; refine (rletter_any _ _).mono ?_; rintro e w' ⟨rfl, rfl⟩) | (go_at_call 29; refine (rdigit_any _ _).mono ?_; rintro e w' ⟨rfl, rfl⟩))
  go_region_held3 (fun w' => w'.cell? ⟨g, 0, none⟩ = some (.string s) ∧ w'.cell? ⟨g, 1, none⟩ = some (.int .i64 i)) (go_keep)
    (first | (go_at_call 30; refine (HS.out _ ?_ ?_ ?_).mono ?_; (simp; omega); (simp [*]); (simp [*]); rintro e w1 ⟨rfl, hk0, hk1, hb1⟩))
  obtain ⟨hc, hf⟩ := bcell hb1
  have hz : w.heap.size + 1 ≤ w1.heap.size := by have := hb1.size; simp at this; omega
  go_wp2
  obtain ⟨hc, _⟩ := bcell hb1
  refine bodyPost_ret (v := .tuple #[tokV 0 0 [] 0 0, .int .i64 0, .int .i64 2]) ?_ rfl ⟨rfl, ?_⟩
  · simp [results, Tryz.results10, go_sem, hc]
  · exact (((((((below_drewN' ((Below.refl _ _).alloc (Nat.le_refl _) _) _).trans (hb1.mono (by simp))).setCell (by simp) _).setCell (by simp) _).setCell (by simp) _).setCell (by simp) _).setCell (by simp) _)

set_option maxRecDepth 100000 in
set_option maxHeartbeats 2000000 in
theorem ritem_sym (w : World) (g : Nat) (s : ByteArray) (i : Nat) (p : Int × Int) (hc : RCur w g s i p) (hm : s.size ≤ 65536) (hi : i < s.size)
    (hl : letterB s[i] = false) (hd : digitB s[i] = false) (y : Bs) (hy : symB (rest s i) = y) (hne : y ≠ []) (hyl : y.length ≤ 4) :
    Calls Tryz.prog 10 #[.pointer (some ⟨g, 0, none⟩)] w (RItemPost w (.tuple #[tokV 4 0 y p.1 p.2, .int .i64 y.length, .int .i64 0])) := by
  have HS := Lib.hid (fun W hg h0 h1 => rsym_held s hm i (by omega) g W hg h0 h1)
  rw [hy] at HS
  obtain ⟨e1, e2⟩ := notEmpty (S y) (isEmptyS y hne)
  have HY : Hid ((S y).size = y.length) := rfl
  have hq4 : (S y).size ≤ 4 := by rw [HY.out]; exact hyl
  have hg := hc.lt
  have d0 := hc.c0
  have d1 := hc.c1
  have d2 := hc.c2
  have d3 := hc.c3
  have x0 : ∀ o : Obj, (w.alloc o).cell? ⟨g, 0, none⟩ = some (.string s) := fun o => (RCur.alloc hc o).c0
  have x1 : ∀ o : Obj, (w.alloc o).cell? ⟨g, 1, none⟩ = some (.int .i64 i) := fun o => (RCur.alloc hc o).c1
  have b0 : (0 : Int) ≤ (i : Int) := by omega
  have b1 : (i : Int) < (s.size : Int) := by omega
  obtain ⟨a, b⟩ := p
  simp only at d2 d3
  obtain ⟨q, hq⟩ : ∃ q, S y = q := ⟨_, rfl⟩
  rw [hq] at HS e1 e2 HY hq4
  have HQ := Lib.hid hq
  have HCU := Lib.hid hc
  clear hc hy hq hyl hne
  go_enter Tryz.func10, Tryz.ntmps10
  go_wp2
  go_quiet (fail)
  go_wp2_with (first | (go_at_call 28; refine (rletter_any _ _).mono ?_; rintro e w' ⟨rfl, rfl⟩) | (go_at_call 29; refine (rdigit_any _ _).mono ?_; rintro e w' ⟨rfl, rfl⟩))
  go_region_held3 (fun w' => w'.cell? ⟨g, 0, none⟩ = some (.string s) ∧ w'.cell? ⟨g, 1, none⟩ = some (.int .i64 i)) (go_keep)
    (first | (go_at_call 30; refine (HS.out _ ?_ ?_ ?_).mono ?_; (simp; omega); (simp [*]); (simp [*]); rintro e w1 ⟨rfl, hk0, hk1, hb1⟩))
  obtain ⟨hc, hf⟩ := bcell hb1
  have hz : w.heap.size + 1 ≤ w1.heap.size := by have := hb1.size; simp at this; omega
  have k2 : w1.cell? ⟨g, 2, none⟩ = some (.int .i64 a) := by rw [hc g 2 (by simp; omega)]; exact (RCur.alloc HCU.out _).c2
  have k3 : w1.cell? ⟨g, 3, none⟩ = some (.int .i64 b) := by rw [hc g 3 (by simp; omega)]; exact (RCur.alloc HCU.out _).c3
  go_wp2
  obtain ⟨hc, _⟩ := bcell hb1
  refine bodyPost_ret (v := .tuple #[tokV 4 0 y a b, .int .i64 y.length, .int .i64 0]) ?_ rfl ⟨rfl, ?_⟩
  · rw [← HY.out]
    unfold tokV
    rw [HQ.out]
    simp [results, Tryz.results10, go_sem, hc]
  · exact (((((((below_drewN' ((Below.refl _ _).alloc (Nat.le_refl _) _) _).trans (hb1.mono (by simp))).setCell (by simp) _).setCell (by simp) _).setCell (by simp) _).setCell (by simp) _).setCell (by simp) _)

theorem quiet_again {P : Program} {f : FuncId} {args : Array Value} {w : World} {a n : Nat} {v : Value}
    (h : Calls P f args (w.drewN (a + n)) fun e w' => e = .returned v ∧ w' = w.drewN (a + n)) :
    Calls P f args (w.drewN (a + n)) fun e w'' => e = .returned v ∧ ∃ m, w'' = w.drewN (a + m) :=
  h.mono fun _ _ ⟨he, hm⟩ => ⟨he, n, hm⟩

/-- what wordEnd returns at an index -/
def WEnd (s : ByteArray) (i N : Nat) : Prop := ∀ W, Calls Tryz.prog 31 #[.string s, .int .i64 i] W fun e w' => e = .returned (.int .i64 (i + N : Nat)) ∧ w' = W

end Go.Proofs.YtkjjagmpnnnimaaGreatDoor

namespace Go.Proofs.YtkjjagmpnnnimaaGreatDoor
open Go.RowKit M

set_option maxRecDepth 100000 in
set_option maxHeartbeats 400000 in
theorem ritem_digit_bad (w : World) (g : Nat) (s : ByteArray) (i : Nat) (p : Int × Int) (hc : RCur w g s i p) (hm : s.size ≤ 65536) (hi : i < s.size)
    (N : Nat) (hN0 : 0 < N) (hN : i + N ≤ s.size) (HW : WEnd s i N) (hl : letterB s[i] = false) (hd : digitB s[i] = true) (t : TR) (hx : intR ((rest s i).take N) = t) (he : t.err ≠ 0) :
    Calls Tryz.prog 10 #[.pointer (some ⟨g, 0, none⟩)] w (RItemPost w (.tuple #[tokV 0 0 [] 0 0, .int .i64 0, .int .i64 t.err])) := by
  have d0 := hc.c0
  have d1 := hc.c1
  have d2 := hc.c2
  have d3 := hc.c3
  have hg := hc.lt
  have x0 : ∀ o : Obj, (w.alloc o).cell? ⟨g, 0, none⟩ = some (.string s) := fun o => (RCur.alloc hc o).c0
  have x1 : ∀ o : Obj, (w.alloc o).cell? ⟨g, 1, none⟩ = some (.int .i64 i) := fun o => (RCur.alloc hc o).c1
  have b0 : (0 : Int) ≤ (i : Int) := by omega
  have b1 : (i : Int) < (s.size : Int) := by omega
  have b2 : (i : Int) + (N : Int) ≤ (s.size : Int) := by omega
  obtain ⟨a, b⟩ := p
  simp only at d2 d3
  obtain ⟨q, hq⟩ : ∃ q, s.extract i (i + N) = q := ⟨_, rfl⟩
  have HQ := Lib.hid hq
  have hqs : q.size = N := by rw [← hq, ByteArray.size_extract]; omega
  have hqp : 0 < q.size := by omega
  have hqm : q.size ≤ 65536 := by omega
  have hql : q.data.toList = (rest s i).take N := by
    rw [← hq]; unfold rest
    rw [ByteArray.data_extract, Array.toList_extract, List.extract_eq_take_drop, Nat.add_sub_cancel_left]
  have HQS := Lib.hid hqs
  have HQE : Hid ((s.extract i (i + N)) = q) := hq
  rw [← hql] at hx
  have HCU := Lib.hid hc
  have HI := fun W => rinteger_any q (by omega) hqp W
  rw [hx] at HI
  obtain ⟨kd, nu, st, er⟩ := t
  simp only at he
  simp only [intV] at HI
  have HI := Lib.hid HI
  have g1 : (er == 0) = false := beq_eq_false_iff_ne.2 he
  have g2 : (er != 0) = true := by simp [he]
  clear hc hx hql he hqs
  go_enter Tryz.func10, Tryz.ntmps10
  go_wp2
  go_quiet (fail)
  go_wp2_with (first | (go_at_call 28; refine (rletter_any _ _).mono ?_; rintro e w' ⟨rfl, rfl⟩) | (go_at_call 29; refine (rdigit_any _ _).mono ?_; rintro e w' ⟨rfl, rfl⟩))
  go_quiet ((go_at_call 31; exact quiet_again (HW _)))
  go_wp2_with (first | (go_at_call 29; refine (rdigit_any _ _).mono ?_; rintro e w' ⟨rfl, rfl⟩) | (go_at_call 32; refine (HI.out _).mono ?_; rintro e w' ⟨rfl, rfl⟩))
  refine bodyPost_ret (v := .tuple #[tokV 0 0 [] 0 0, .int .i64 0, .int .i64 er]) ?_ rfl ⟨rfl, (((((below_drewN' ((Below.refl _ _).alloc (Nat.le_refl _) _) _).setCell (by simp) _).setCell (by simp) _).setCell (by simp) _).setCell (by simp) _).setCell (by simp) _⟩
  simp [results, Tryz.results10, go_sem]

set_option maxRecDepth 100000 in
set_option maxHeartbeats 400000 in
theorem ritem_digit_ok (w : World) (g : Nat) (s : ByteArray) (i : Nat) (p : Int × Int) (hc : RCur w g s i p) (hm : s.size ≤ 65536) (hi : i < s.size)
    (N : Nat) (hN0 : 0 < N) (hN : i + N ≤ s.size) (HW : WEnd s i N) (hl : letterB s[i] = false) (hd : digitB s[i] = true) (n : Int) (hx : intR ((rest s i).take N) = ⟨2, n, [], 0⟩) :
    Calls Tryz.prog 10 #[.pointer (some ⟨g, 0, none⟩)] w (RItemPost w (.tuple #[tokV 2 n [] p.1 p.2, .int .i64 N, .int .i64 0])) := by
  have d0 := hc.c0
  have d1 := hc.c1
  have d2 := hc.c2
  have d3 := hc.c3
  have hg := hc.lt
  have x0 : ∀ o : Obj, (w.alloc o).cell? ⟨g, 0, none⟩ = some (.string s) := fun o => (RCur.alloc hc o).c0
  have x1 : ∀ o : Obj, (w.alloc o).cell? ⟨g, 1, none⟩ = some (.int .i64 i) := fun o => (RCur.alloc hc o).c1
  have b0 : (0 : Int) ≤ (i : Int) := by omega
  have b1 : (i : Int) < (s.size : Int) := by omega
  have b2 : (i : Int) + (N : Int) ≤ (s.size : Int) := by omega
  obtain ⟨a, b⟩ := p
  simp only at d2 d3
  obtain ⟨q, hq⟩ : ∃ q, s.extract i (i + N) = q := ⟨_, rfl⟩
  have HQ := Lib.hid hq
  have hqs : q.size = N := by rw [← hq, ByteArray.size_extract]; omega
  have hqp : 0 < q.size := by omega
  have hqm : q.size ≤ 65536 := by omega
  have hql : q.data.toList = (rest s i).take N := by
    rw [← hq]; unfold rest
    rw [ByteArray.data_extract, Array.toList_extract, List.extract_eq_take_drop, Nat.add_sub_cancel_left]
  have HQS := Lib.hid hqs
  have HQE : Hid ((s.extract i (i + N)) = q) := hq
  rw [← hql] at hx
  have HCU := Lib.hid hc
  have HI := fun W => rinteger_any q (by omega) hqp W
  rw [hx] at HI
  simp only [intV] at HI
  have HI := Lib.hid HI
  have x2 : ∀ o : Obj, (w.alloc o).cell? ⟨g, 2, none⟩ = some (.int .i64 a) := fun o => (RCur.alloc HCU.out o).c2
  have x3 : ∀ o : Obj, (w.alloc o).cell? ⟨g, 3, none⟩ = some (.int .i64 b) := fun o => (RCur.alloc HCU.out o).c3
  clear hc hx hql hqs
  go_enter Tryz.func10, Tryz.ntmps10
  go_wp2
  go_quiet (fail)
  go_wp2_with (first | (go_at_call 28; refine (rletter_any _ _).mono ?_; rintro e w' ⟨rfl, rfl⟩) | (go_at_call 29; refine (rdigit_any _ _).mono ?_; rintro e w' ⟨rfl, rfl⟩))
  go_quiet ((go_at_call 31; exact quiet_again (HW _)))
  go_wp2_with (first | (go_at_call 29; refine (rdigit_any _ _).mono ?_; rintro e w' ⟨rfl, rfl⟩) | (go_at_call 32; refine (HI.out _).mono ?_; rintro e w' ⟨rfl, rfl⟩))
  refine bodyPost_ret (v := .tuple #[tokV 2 n [] a b, .int .i64 N, .int .i64 0]) ?_ rfl ⟨rfl, (((((below_drewN' ((Below.refl _ _).alloc (Nat.le_refl _) _) _).setCell (by simp) _).setCell (by simp) _).setCell (by simp) _).setCell (by simp) _).setCell (by simp) _⟩
  rw [← HQS.out]
  simp [results, Tryz.results10, go_sem]

end Go.Proofs.YtkjjagmpnnnimaaGreatDoor

namespace Go.Proofs.YtkjjagmpnnnimaaGreatDoor
open Go.RowKit M

theorem heap_new_drewN (w : World) (o o2 : Obj) (n : Nat) : (((w.alloc o).drewN n).alloc o2).heap[w.heap.size + 1]? = some o2 := by
  have h := heap_alloc_new ((w.alloc o).drewN n) o2
  have e : ((w.alloc o).drewN n).heap.size = w.heap.size + 1 := by
    show (w.alloc o).heap.size = _
    simp
  rwa [e] at h
theorem below_new_drewN (w : World) (o o2 : Obj) (n : Nat) : Below (w.alloc o).heap.size (w.alloc o) (((w.alloc o).drewN n).alloc o2) := by
  have h : Below (w.alloc o).heap.size (w.alloc o) ((w.alloc o).drewN n) := below_drewN' (Below.refl _ _) n
  exact h.alloc (Nat.le_refl (w.alloc o).heap.size) o2

set_option maxRecDepth 100000 in
set_option maxHeartbeats 2000000 in
theorem ritem_kw (w : World) (g : Nat) (s : ByteArray) (i : Nat) (p : Int × Int) (hc : RCur w g s i p) (hm : s.size ≤ 65536) (hi : i < s.size)
    (N : Nat) (hN0 : 0 < N) (hN : i + N ≤ s.size) (HW : WEnd s i N) (hl : letterB s[i] = true) (hd : digitB s[i] = false) (hx : kwB ((rest s i).take N) = true) :
    Calls Tryz.prog 10 #[.pointer (some ⟨g, 0, none⟩)] w (RItemPost w (.tuple #[tokV 3 0 ((rest s i).take N) p.1 p.2, .int .i64 N, .int .i64 0])) := by
  have d0 := hc.c0
  have d1 := hc.c1
  have d2 := hc.c2
  have d3 := hc.c3
  have hg := hc.lt
  have x0 : ∀ o : Obj, (w.alloc o).cell? ⟨g, 0, none⟩ = some (.string s) := fun o => (RCur.alloc hc o).c0
  have x1 : ∀ o : Obj, (w.alloc o).cell? ⟨g, 1, none⟩ = some (.int .i64 i) := fun o => (RCur.alloc hc o).c1
  have b0 : (0 : Int) ≤ (i : Int) := by omega
  have b1 : (i : Int) < (s.size : Int) := by omega
  have b2 : (i : Int) + (N : Int) ≤ (s.size : Int) := by omega
  obtain ⟨a, b⟩ := p
  simp only at d2 d3
  obtain ⟨q, hq⟩ : ∃ q, s.extract i (i + N) = q := ⟨_, rfl⟩
  have HQ := Lib.hid hq
  have hqs : q.size = N := by rw [← hq, ByteArray.size_extract]; omega
  have hqp : 0 < q.size := by omega
  have hqm : q.size ≤ 65536 := by omega
  have hql : q.data.toList = (rest s i).take N := by
    rw [← hq]; unfold rest
    rw [ByteArray.data_extract, Array.toList_extract, List.extract_eq_take_drop, Nat.add_sub_cancel_left]
  have HQS := Lib.hid hqs
  have HQE : Hid ((s.extract i (i + N)) = q) := hq
  rw [← hql] at hx
  have HCU := Lib.hid hc
  have HK := Lib.hid (fun b W hb => rin_any keywords 25 rfl (by decide) q b W hb)
  have HX := Lib.hid hx
  have HQL : Hid (S ((rest s i).take N) = q) := by unfold Hid; rw [← hql, S_of]
  clear hc hx hql hqs
  go_enter Tryz.func10, Tryz.ntmps10
  go_wp2
  go_quiet (fail)
  go_wp2_with (first | (go_at_call 28; refine (rletter_any _ _).mono ?_; rintro e w' ⟨rfl, rfl⟩) | (go_at_call 29; refine (rdigit_any _ _).mono ?_; rintro e w' ⟨rfl, rfl⟩))
  go_quiet ((go_at_call 31; exact quiet_again (HW _)))
  go_wp2_with fail
  refine (rdigit_any _ _).mono ?_
  rintro e w' ⟨rfl, rfl⟩
  go_wp2_with fail
  refine (rkeywords_any _).mono ?_
  rintro e w0 ⟨rfl, hw0⟩
  have hbk : w0.heap[w.heap.size + 1]? = some (strBlock keywords) := by
    rw [← hw0]
    exact heap_new_drewN w _ _ _
  have HK0 := HK.out (w.heap.size + 1) w0 hbk
  clear hbk
  rw [show keywords.contains q.data.toList = true from HX.out] at HK0
  have HK0 := Lib.hid HK0
  have hw00 := Lib.hid hw0
  clear hw0
  go_wp2_with fail
  refine HK0.out.mono ?_
  rintro e w' ⟨rfl, rfl⟩
  have hB0 : Below ((w.alloc (.cells #[.int .i64 0, .int .i64 0, .string ⟨#[]⟩, .int .i64 0, .int .i64 0] 37)).heap.size) (w.alloc (.cells #[.int .i64 0, .int .i64 0, .string ⟨#[]⟩, .int .i64 0, .int .i64 0] 37)) w0 := by
    rw [← hw00.out]
    exact below_new_drewN w _ _ _
  obtain ⟨hc, hf⟩ := bcell hB0
  have hz : w.heap.size + 1 ≤ w0.heap.size := by have := hB0.size; simp at this; omega
  have k2 : w0.cell? ⟨g, 2, none⟩ = some (.int .i64 a) := by rw [hc g 2 (by simp; omega)]; exact (RCur.alloc HCU.out _).c2
  have k3 : w0.cell? ⟨g, 3, none⟩ = some (.int .i64 b) := by rw [hc g 3 (by simp; omega)]; exact (RCur.alloc HCU.out _).c3
  have HB0 := Lib.hid hB0
  clear hB0
  go_wp2
  obtain ⟨hc, _⟩ := bcell HB0.out
  refine bodyPost_ret (v := .tuple #[tokV 3 0 ((rest s i).take N) a b, .int .i64 N, .int .i64 0]) ?_ rfl ⟨rfl, ?_⟩
  · rw [← HQS.out]
    unfold tokV
    rw [HQS.out, HQL.out, ← HQS.out]
    simp [results, Tryz.results10, go_sem, hc]
  · exact (((((((Below.refl _ _).alloc (Nat.le_refl _) _).trans (HB0.out.mono (by simp))).setCell (by simp) _).setCell (by simp) _).setCell (by simp) _).setCell (by simp) _).setCell (by simp) _

set_option maxRecDepth 100000 in
set_option maxHeartbeats 2000000 in
theorem ritem_name (w : World) (g : Nat) (s : ByteArray) (i : Nat) (p : Int × Int) (hc : RCur w g s i p) (hm : s.size ≤ 65536) (hi : i < s.size)
    (N : Nat) (hN0 : 0 < N) (hN : i + N ≤ s.size) (HW : WEnd s i N) (hl : letterB s[i] = true) (hd : digitB s[i] = false) (hx : kwB ((rest s i).take N) = false) (hn : nameB ((rest s i).take N) = true) :
    Calls Tryz.prog 10 #[.pointer (some ⟨g, 0, none⟩)] w (RItemPost w (.tuple #[tokV 1 0 ((rest s i).take N) p.1 p.2, .int .i64 N, .int .i64 0])) := by
  have d0 := hc.c0
  have d1 := hc.c1
  have d2 := hc.c2
  have d3 := hc.c3
  have hg := hc.lt
  have x0 : ∀ o : Obj, (w.alloc o).cell? ⟨g, 0, none⟩ = some (.string s) := fun o => (RCur.alloc hc o).c0
  have x1 : ∀ o : Obj, (w.alloc o).cell? ⟨g, 1, none⟩ = some (.int .i64 i) := fun o => (RCur.alloc hc o).c1
  have b0 : (0 : Int) ≤ (i : Int) := by omega
  have b1 : (i : Int) < (s.size : Int) := by omega
  have b2 : (i : Int) + (N : Int) ≤ (s.size : Int) := by omega
  obtain ⟨a, b⟩ := p
  simp only at d2 d3
  obtain ⟨q, hq⟩ : ∃ q, s.extract i (i + N) = q := ⟨_, rfl⟩
  have HQ := Lib.hid hq
  have hqs : q.size = N := by rw [← hq, ByteArray.size_extract]; omega
  have hqp : 0 < q.size := by omega
  have hqm : q.size ≤ 65536 := by omega
  have hql : q.data.toList = (rest s i).take N := by
    rw [← hq]; unfold rest
    rw [ByteArray.data_extract, Array.toList_extract, List.extract_eq_take_drop, Nat.add_sub_cancel_left]
  have HQS := Lib.hid hqs
  have HQE : Hid ((s.extract i (i + N)) = q) := hq
  rw [← hql] at hx
  have HCU := Lib.hid hc
  have HK := Lib.hid (fun b W hb => rin_any keywords 25 rfl (by decide) q b W hb)
  have HNM := fun W => rname_any q (by omega) W
  rw [hql, hn] at HNM
  have HNM := Lib.hid HNM
  have HX := Lib.hid hx
  have HQL : Hid (S ((rest s i).take N) = q) := by unfold Hid; rw [← hql, S_of]
  clear hc hx hql hqs hn
  go_enter Tryz.func10, Tryz.ntmps10
  go_wp2
  go_quiet (fail)
  go_wp2_with (first | (go_at_call 28; refine (rletter_any _ _).mono ?_; rintro e w' ⟨rfl, rfl⟩) | (go_at_call 29; refine (rdigit_any _ _).mono ?_; rintro e w' ⟨rfl, rfl⟩))
  go_quiet ((go_at_call 31; exact quiet_again (HW _)))
  go_wp2_with fail
  refine (rdigit_any _ _).mono ?_
  rintro e w' ⟨rfl, rfl⟩
  go_wp2_with fail
  refine (rkeywords_any _).mono ?_
  rintro e w0 ⟨rfl, hw0⟩
  have hbk : w0.heap[w.heap.size + 1]? = some (strBlock keywords) := by
    rw [← hw0]
    exact heap_new_drewN w _ _ _
  have HK0 := HK.out (w.heap.size + 1) w0 hbk
  clear hbk
  rw [show keywords.contains q.data.toList = false from HX.out] at HK0
  have HK0 := Lib.hid HK0
  have hw00 := Lib.hid hw0
  clear hw0
  go_wp2_with fail
  refine HK0.out.mono ?_
  rintro e w' ⟨rfl, rfl⟩
  have hB0 : Below ((w.alloc (.cells #[.int .i64 0, .int .i64 0, .string ⟨#[]⟩, .int .i64 0, .int .i64 0] 37)).heap.size) (w.alloc (.cells #[.int .i64 0, .int .i64 0, .string ⟨#[]⟩, .int .i64 0, .int .i64 0] 37)) w0 := by
    rw [← hw00.out]
    exact below_new_drewN w _ _ _
  obtain ⟨hc, hf⟩ := bcell hB0
  have hz : w.heap.size + 1 ≤ w0.heap.size := by have := hB0.size; simp at this; omega
  have k2 : w0.cell? ⟨g, 2, none⟩ = some (.int .i64 a) := by rw [hc g 2 (by simp; omega)]; exact (RCur.alloc HCU.out _).c2
  have k3 : w0.cell? ⟨g, 3, none⟩ = some (.int .i64 b) := by rw [hc g 3 (by simp; omega)]; exact (RCur.alloc HCU.out _).c3
  have HB0 := Lib.hid hB0
  clear hB0 hc hf hz k2 k3
  go_wp2_with fail
  refine (HNM.out _).mono ?_
  rintro e w1 ⟨rfl, hb1⟩
  have hB1 := HB0.out.trans (hb1.mono HB0.out.size)
  obtain ⟨hc, hf⟩ := bcell hB1
  have hz : w.heap.size + 1 ≤ w1.heap.size := by have := hB1.size; simp at this; omega
  have k2 : w1.cell? ⟨g, 2, none⟩ = some (.int .i64 a) := by rw [hc g 2 (by simp; omega)]; exact (RCur.alloc HCU.out _).c2
  have k3 : w1.cell? ⟨g, 3, none⟩ = some (.int .i64 b) := by rw [hc g 3 (by simp; omega)]; exact (RCur.alloc HCU.out _).c3
  have HB1 := Lib.hid hB1
  clear hB1 hb1
  go_wp2
  obtain ⟨hc, _⟩ := bcell HB1.out
  refine bodyPost_ret (v := .tuple #[tokV 1 0 ((rest s i).take N) a b, .int .i64 N, .int .i64 0]) ?_ rfl ⟨rfl, ?_⟩
  · rw [← HQS.out]
    unfold tokV
    rw [HQS.out, HQL.out, ← HQS.out]
    simp [results, Tryz.results10, go_sem, hc]
  · exact (((((((Below.refl _ _).alloc (Nat.le_refl _) _).trans (HB1.out.mono (by simp))).setCell (by simp) _).setCell (by simp) _).setCell (by simp) _).setCell (by simp) _).setCell (by simp) _

set_option maxRecDepth 100000 in
set_option maxHeartbeats 2000000 in
theorem ritem_long (w : World) (g : Nat) (s : ByteArray) (i : Nat) (p : Int × Int) (hc : RCur w g s i p) (hm : s.size ≤ 65536) (hi : i < s.size)
    (N : Nat) (hN0 : 0 < N) (hN : i + N ≤ s.size) (HW : WEnd s i N) (hl : letterB s[i] = true) (hd : digitB s[i] = false) (hx : kwB ((rest s i).take N) = false) (hn : nameB ((rest s i).take N) = false) :
    Calls Tryz.prog 10 #[.pointer (some ⟨g, 0, none⟩)] w (RItemPost w (.tuple #[tokV 0 0 [] 0 0, .int .i64 0, .int .i64 2])) := by
  have d0 := hc.c0
  have d1 := hc.c1
  have d2 := hc.c2
  have d3 := hc.c3
  have hg := hc.lt
  have x0 : ∀ o : Obj, (w.alloc o).cell? ⟨g, 0, none⟩ = some (.string s) := fun o => (RCur.alloc hc o).c0
  have x1 : ∀ o : Obj, (w.alloc o).cell? ⟨g, 1, none⟩ = some (.int .i64 i) := fun o => (RCur.alloc hc o).c1
  have b0 : (0 : Int) ≤ (i : Int) := by omega
  have b1 : (i : Int) < (s.size : Int) := by omega
  have b2 : (i : Int) + (N : Int) ≤ (s.size : Int) := by omega
  obtain ⟨a, b⟩ := p
  simp only at d2 d3
  obtain ⟨q, hq⟩ : ∃ q, s.extract i (i + N) = q := ⟨_, rfl⟩
  have HQ := Lib.hid hq
  have hqs : q.size = N := by rw [← hq, ByteArray.size_extract]; omega
  have hqp : 0 < q.size := by omega
  have hqm : q.size ≤ 65536 := by omega
  have hql : q.data.toList = (rest s i).take N := by
    rw [← hq]; unfold rest
    rw [ByteArray.data_extract, Array.toList_extract, List.extract_eq_take_drop, Nat.add_sub_cancel_left]
  have HQS := Lib.hid hqs
  have HQE : Hid ((s.extract i (i + N)) = q) := hq
  rw [← hql] at hx
  have HCU := Lib.hid hc
  have HK := Lib.hid (fun b W hb => rin_any keywords 25 rfl (by decide) q b W hb)
  have HNM := fun W => rname_any q (by omega) W
  rw [hql, hn] at HNM
  have HNM := Lib.hid HNM
  have HX := Lib.hid hx
  have HQL : Hid (S ((rest s i).take N) = q) := by unfold Hid; rw [← hql, S_of]
  clear hc hx hql hqs hn
  go_enter Tryz.func10, Tryz.ntmps10
  go_wp2
  go_quiet (fail)
  go_wp2_with (first | (go_at_call 28; refine (rletter_any _ _).mono ?_; rintro e w' ⟨rfl, rfl⟩) | (go_at_call 29; refine (rdigit_any _ _).mono ?_; rintro e w' ⟨rfl, rfl⟩))
  go_quiet ((go_at_call 31; exact quiet_again (HW _)))
  go_wp2_with fail
  refine (rdigit_any _ _).mono ?_
  rintro e w' ⟨rfl, rfl⟩
  go_wp2_with fail
  refine (rkeywords_any _).mono ?_
  rintro e w0 ⟨rfl, hw0⟩
  have hbk : w0.heap[w.heap.size + 1]? = some (strBlock keywords) := by
    rw [← hw0]
    exact heap_new_drewN w _ _ _
  have HK0 := HK.out (w.heap.size + 1) w0 hbk
  clear hbk
  rw [show keywords.contains q.data.toList = false from HX.out] at HK0
  have HK0 := Lib.hid HK0
  have hw00 := Lib.hid hw0
  clear hw0
  go_wp2_with fail
  refine HK0.out.mono ?_
  rintro e w' ⟨rfl, rfl⟩
  have hB0 : Below ((w.alloc (.cells #[.int .i64 0, .int .i64 0, .string ⟨#[]⟩, .int .i64 0, .int .i64 0] 37)).heap.size) (w.alloc (.cells #[.int .i64 0, .int .i64 0, .string ⟨#[]⟩, .int .i64 0, .int .i64 0] 37)) w0 := by
    rw [← hw00.out]
    exact below_new_drewN w _ _ _
  obtain ⟨hc, hf⟩ := bcell hB0
  have hz : w.heap.size + 1 ≤ w0.heap.size := by have := hB0.size; simp at this; omega
  have k2 : w0.cell? ⟨g, 2, none⟩ = some (.int .i64 a) := by rw [hc g 2 (by simp; omega)]; exact (RCur.alloc HCU.out _).c2
  have k3 : w0.cell? ⟨g, 3, none⟩ = some (.int .i64 b) := by rw [hc g 3 (by simp; omega)]; exact (RCur.alloc HCU.out _).c3
  have HB0 := Lib.hid hB0
  clear hB0 hc hf hz k2 k3
  go_wp2_with fail
  refine (HNM.out _).mono ?_
  rintro e w1 ⟨rfl, hb1⟩
  have hB1 := HB0.out.trans (hb1.mono HB0.out.size)
  obtain ⟨hc, hf⟩ := bcell hB1
  have hz : w.heap.size + 1 ≤ w1.heap.size := by have := hB1.size; simp at this; omega
  have k2 : w1.cell? ⟨g, 2, none⟩ = some (.int .i64 a) := by rw [hc g 2 (by simp; omega)]; exact (RCur.alloc HCU.out _).c2
  have k3 : w1.cell? ⟨g, 3, none⟩ = some (.int .i64 b) := by rw [hc g 3 (by simp; omega)]; exact (RCur.alloc HCU.out _).c3
  have HB1 := Lib.hid hB1
  clear hB1 hb1
  go_wp2
  obtain ⟨hc, _⟩ := bcell HB1.out
  refine bodyPost_ret (v := .tuple #[tokV 0 0 [] 0 0, .int .i64 0, .int .i64 2]) ?_ rfl ⟨rfl, ?_⟩
  · simp [results, Tryz.results10, go_sem, hc]
  · exact (((((((Below.refl _ _).alloc (Nat.le_refl _) _).trans (HB1.out.mono (by simp))).setCell (by simp) _).setCell (by simp) _).setCell (by simp) _).setCell (by simp) _).setCell (by simp) _

end Go.Proofs.YtkjjagmpnnnimaaGreatDoor
