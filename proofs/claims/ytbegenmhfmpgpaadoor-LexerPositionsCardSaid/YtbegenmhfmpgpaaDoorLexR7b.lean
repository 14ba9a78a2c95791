/- What the reference's item returns at integers. -/
import Derived.Test.YtbegenmhfmpgpaaDoorLexR7
namespace Go.Proofs.YtbegenmhfmpgpaaDoor
open Go.RowKit M

set_option maxRecDepth 100000 in
set_option maxHeartbeats 400000 in
theorem ritem_digit_bad (w : World) (g : Nat) (s : ByteArray) (i : Nat) (p : Int × Int) (hc : RCur w g s i p) (hm : s.size ≤ 65536) (hi : i < s.size)
    (N : Nat) (hN0 : 0 < N) (hN : i + N ≤ s.size) (HW : WEnd s i N) (hl : letterB s[i] = false) (hd : digitB s[i] = true) (t : TR) (hx : intR ((rest s i).take N) = t) (he : t.err ≠ 0) :
    Calls Tryd.prog 41 #[.pointer (some ⟨g, 0, none⟩)] w (RItemPost w (.tuple #[tokV 0 0 [] 0 0, .int .i64 0, .int .i64 t.err])) := by
  have d0 := hc.c0
  have d1 := hc.c1
  have d2 := hc.c2
  have d3 := hc.c3
  have hg := hc.lt
  have x0 : ∀ o : Obj, (w.alloc o).cell? ⟨g, 0, none⟩ = some (.string s) := fun o => (RCur.alloc hc o).c0
  have x1 : ∀ o : Obj, (w.alloc o).cell? ⟨g, 1, none⟩ = some (.int .i64 i) := fun o => (RCur.alloc hc o).c1
  have b0 : (0 : Int) ≤ (i : Int) := by omega
  have b1 : (i : Int) < (s.size : Int) := by omega
  have b2 : (i : Int) + (N : Int) ≤ (s.size : Int) := by omega
  obtain ⟨a, b⟩ := p
  simp only at d2 d3
  obtain ⟨q, hq⟩ : ∃ q, s.extract i (i + N) = q := ⟨_, rfl⟩
  have HQ := Lib.hid hq
  have hqs : q.size = N := by rw [← hq, ByteArray.size_extract]; omega
  have hqp : 0 < q.size := by omega
  have hqm : q.size ≤ 65536 := by omega
  have hql : q.data.toList = (rest s i).take N := by
    rw [← hq]; unfold rest
    rw [ByteArray.data_extract, Array.toList_extract, List.extract_eq_take_drop, Nat.add_sub_cancel_left]
  have HQS := Lib.hid hqs
  have HQE : Hid ((s.extract i (i + N)) = q) := hq
  rw [← hql] at hx
  have HCU := Lib.hid hc
  have HI := fun W => rinteger_any q (by omega) hqp W
  rw [hx] at HI
  obtain ⟨kd, nu, st, er⟩ := t
  simp only at he
  simp only [intV] at HI
  have HI := Lib.hid HI
  have g1 : (er == 0) = false := beq_eq_false_iff_ne.2 he
  have g2 : (er != 0) = true := by simp [he]
  clear hc hx hql he hqs
  go_enter Tryd.func41, Tryd.ntmps41
  go_wp2
  go_quiet (fail)
  go_wp2_with (first | (go_at_call 54; refine (rletter_any _ _).mono ?_; rintro e w' ⟨rfl, rfl⟩) | (go_at_call 61; refine (rdigit_any _ _).mono ?_; rintro e w' ⟨rfl, rfl⟩))
  go_quiet ((go_at_call 55; exact quiet_again (HW _)))
  go_wp2_with (first | (go_at_call 61; refine (rdigit_any _ _).mono ?_; rintro e w' ⟨rfl, rfl⟩) | (go_at_call 63; refine (HI.out _).mono ?_; rintro e w' ⟨rfl, rfl⟩))
  refine bodyPost_ret (v := .tuple #[tokV 0 0 [] 0 0, .int .i64 0, .int .i64 er]) ?_ rfl ⟨rfl, (((((below_drewN' ((Below.refl _ _).alloc (Nat.le_refl _) _) _).setCell (by simp) _).setCell (by simp) _).setCell (by simp) _).setCell (by simp) _).setCell (by simp) _⟩
  simp [results, Tryd.results41, go_sem]

set_option maxRecDepth 100000 in
set_option maxHeartbeats 400000 in
theorem ritem_digit_ok (w : World) (g : Nat) (s : ByteArray) (i : Nat) (p : Int × Int) (hc : RCur w g s i p) (hm : s.size ≤ 65536) (hi : i < s.size)
    (N : Nat) (hN0 : 0 < N) (hN : i + N ≤ s.size) (HW : WEnd s i N) (hl : letterB s[i] = false) (hd : digitB s[i] = true) (n : Int) (hx : intR ((rest s i).take N) = ⟨2, n, [], 0⟩) :
    Calls Tryd.prog 41 #[.pointer (some ⟨g, 0, none⟩)] w (RItemPost w (.tuple #[tokV 2 n [] p.1 p.2, .int .i64 N, .int .i64 0])) := by
  have d0 := hc.c0
  have d1 := hc.c1
  have d2 := hc.c2
  have d3 := hc.c3
  have hg := hc.lt
  have x0 : ∀ o : Obj, (w.alloc o).cell? ⟨g, 0, none⟩ = some (.string s) := fun o => (RCur.alloc hc o).c0
  have x1 : ∀ o : Obj, (w.alloc o).cell? ⟨g, 1, none⟩ = some (.int .i64 i) := fun o => (RCur.alloc hc o).c1
  have b0 : (0 : Int) ≤ (i : Int) := by omega
  have b1 : (i : Int) < (s.size : Int) := by omega
  have b2 : (i : Int) + (N : Int) ≤ (s.size : Int) := by omega
  obtain ⟨a, b⟩ := p
  simp only at d2 d3
  obtain ⟨q, hq⟩ : ∃ q, s.extract i (i + N) = q := ⟨_, rfl⟩
  have HQ := Lib.hid hq
  have hqs : q.size = N := by rw [← hq, ByteArray.size_extract]; omega
  have hqp : 0 < q.size := by omega
  have hqm : q.size ≤ 65536 := by omega
  have hql : q.data.toList = (rest s i).take N := by
    rw [← hq]; unfold rest
    rw [ByteArray.data_extract, Array.toList_extract, List.extract_eq_take_drop, Nat.add_sub_cancel_left]
  have HQS := Lib.hid hqs
  have HQE : Hid ((s.extract i (i + N)) = q) := hq
  rw [← hql] at hx
  have HCU := Lib.hid hc
  have HI := fun W => rinteger_any q (by omega) hqp W
  rw [hx] at HI
  simp only [intV] at HI
  have HI := Lib.hid HI
  have x2 : ∀ o : Obj, (w.alloc o).cell? ⟨g, 2, none⟩ = some (.int .i64 a) := fun o => (RCur.alloc HCU.out o).c2
  have x3 : ∀ o : Obj, (w.alloc o).cell? ⟨g, 3, none⟩ = some (.int .i64 b) := fun o => (RCur.alloc HCU.out o).c3
  clear hc hx hql hqs
  go_enter Tryd.func41, Tryd.ntmps41
  go_wp2
  go_quiet (fail)
  go_wp2_with (first | (go_at_call 54; refine (rletter_any _ _).mono ?_; rintro e w' ⟨rfl, rfl⟩) | (go_at_call 61; refine (rdigit_any _ _).mono ?_; rintro e w' ⟨rfl, rfl⟩))
  go_quiet ((go_at_call 55; exact quiet_again (HW _)))
  go_wp2_with (first | (go_at_call 61; refine (rdigit_any _ _).mono ?_; rintro e w' ⟨rfl, rfl⟩) | (go_at_call 63; refine (HI.out _).mono ?_; rintro e w' ⟨rfl, rfl⟩))
  refine bodyPost_ret (v := .tuple #[tokV 2 n [] a b, .int .i64 N, .int .i64 0]) ?_ rfl ⟨rfl, (((((below_drewN' ((Below.refl _ _).alloc (Nat.le_refl _) _) _).setCell (by simp) _).setCell (by simp) _).setCell (by simp) _).setCell (by simp) _).setCell (by simp) _⟩
  rw [← HQS.out]
  simp [results, Tryd.results41, go_sem]

end Go.Proofs.YtbegenmhfmpgpaaDoor
