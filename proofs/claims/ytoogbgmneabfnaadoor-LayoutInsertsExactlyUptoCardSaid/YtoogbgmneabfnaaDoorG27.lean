/- What the reference's item returns at integers. What the reference's item returns at keywords and names. What the reference's item returns at every cursor: the item that the model names. -/
import Derived.Test.YtoogbgmneabfnaaDoorG26
import Derived.Test.YtoogbgmneabfnaaDoorG5
namespace Go.Proofs.YtoogbgmneabfnaaDoor
open Go.RowKit M

set_option maxRecDepth 100000 in
set_option maxHeartbeats 400000 in
theorem ritem_digit_bad (w : World) (g : Nat) (s : ByteArray) (i : Nat) (p : Int × Int) (hc : RCur w g s i p) (hm : s.size ≤ 65536) (hi : i < s.size)
    (N : Nat) (hN0 : 0 < N) (hN : i + N ≤ s.size) (HW : WEnd s i N) (hl : letterB s[i] = false) (hd : digitB s[i] = true) (t : TR) (hx : intR ((rest s i).take N) = t) (he : t.err ≠ 0) :
    Calls Tryd.prog 28 #[.pointer (some ⟨g, 0, none⟩)] w (RItemPost w (.tuple #[tokV 0 0 [] 0 0, .int .i64 0, .int .i64 t.err])) := by
  have d0 := hc.c0
  have d1 := hc.c1
  have d2 := hc.c2
  have d3 := hc.c3
  have hg := hc.lt
  have x0 : ∀ o : Obj, (w.alloc o).cell? ⟨g, 0, none⟩ = some (.string s) := fun o => (RCur.alloc hc o).c0
  have x1 : ∀ o : Obj, (w.alloc o).cell? ⟨g, 1, none⟩ = some (.int .i64 i) := fun o => (RCur.alloc hc o).c1
  have b0 : (0 : Int) ≤ (i : Int) := by omega
  have b1 : (i : Int) < (s.size : Int) := by omega
  have b2 : (i : Int) + (N : Int) ≤ (s.size : Int) := by omega
  obtain ⟨a, b⟩ := p
  simp only at d2 d3
  obtain ⟨q, hq⟩ : ∃ q, s.extract i (i + N) = q := ⟨_, rfl⟩
  have HQ := Lib.hid hq
  have hqs : q.size = N := by rw [← hq, ByteArray.size_extract]; omega
  have hqp : 0 < q.size := by omega
  have hqm : q.size ≤ 65536 := by omega
  have hql : q.data.toList = (rest s i).take N := by
    rw [← hq]; unfold rest
    rw [ByteArray.data_extract, Array.toList_extract, List.extract_eq_take_drop, Nat.add_sub_cancel_left]
  have HQS := Lib.hid hqs
  have HQE : Hid ((s.extract i (i + N)) = q) := hq
  rw [← hql] at hx
  have HCU := Lib.hid hc
  have HI := fun W => rinteger_any q (by omega) hqp W
  rw [hx] at HI
  obtain ⟨kd, nu, st, er⟩ := t
  simp only at he
  simp only [intV] at HI
  have HI := Lib.hid HI
  have g1 : (er == 0) = false := beq_eq_false_iff_ne.2 he
  have g2 : (er != 0) = true := by simp [he]
  clear hc hx hql he hqs
  go_enter Tryd.func28, Tryd.ntmps28
  go_wp2
  go_quiet (fail)
  go_wp2_with (first | (go_at_call 46; refine (rletter_any _ _).mono ?_; rintro e w' ⟨rfl, rfl⟩) | (go_at_call 47; refine (rdigit_any _ _).mono ?_; rintro e w' ⟨rfl, rfl⟩))
  go_quiet ((go_at_call 49; exact quiet_again (HW _)))
  go_wp2_with (first | (go_at_call 47; refine (rdigit_any _ _).mono ?_; rintro e w' ⟨rfl, rfl⟩) | (go_at_call 50; refine (HI.out _).mono ?_; rintro e w' ⟨rfl, rfl⟩))
  refine bodyPost_ret (v := .tuple #[tokV 0 0 [] 0 0, .int .i64 0, .int .i64 er]) ?_ rfl ⟨rfl, (((((below_drewN' ((Below.refl _ _).alloc (Nat.le_refl _) _) _).setCell (by simp) _).setCell (by simp) _).setCell (by simp) _).setCell (by simp) _).setCell (by simp) _⟩
  simp [results, Tryd.results28, go_sem]

set_option maxRecDepth 100000 in
set_option maxHeartbeats 400000 in
theorem ritem_digit_ok (w : World) (g : Nat) (s : ByteArray) (i : Nat) (p : Int × Int) (hc : RCur w g s i p) (hm : s.size ≤ 65536) (hi : i < s.size)
    (N : Nat) (hN0 : 0 < N) (hN : i + N ≤ s.size) (HW : WEnd s i N) (hl : letterB s[i] = false) (hd : digitB s[i] = true) (n : Int) (hx : intR ((rest s i).take N) = ⟨2, n, [], 0⟩) :
    Calls Tryd.prog 28 #[.pointer (some ⟨g, 0, none⟩)] w (RItemPost w (.tuple #[tokV 2 n [] p.1 p.2, .int .i64 N, .int .i64 0])) := by
  have d0 := hc.c0
  have d1 := hc.c1
  have d2 := hc.c2
  have d3 := hc.c3
  have hg := hc.lt
  have x0 : ∀ o : Obj, (w.alloc o).cell? ⟨g, 0, none⟩ = some (.string s) := fun o => (RCur.alloc hc o).c0
  have x1 : ∀ o : Obj, (w.alloc o).cell? ⟨g, 1, none⟩ = some (.int .i64 i) := fun o => (RCur.alloc hc o).c1
  have b0 : (0 : Int) ≤ (i : Int) := by omega
  have b1 : (i : Int) < (s.size : Int) := by omega
  have b2 : (i : Int) + (N : Int) ≤ (s.size : Int) := by omega
  obtain ⟨a, b⟩ := p
  simp only at d2 d3
  obtain ⟨q, hq⟩ : ∃ q, s.extract i (i + N) = q := ⟨_, rfl⟩
  have HQ := Lib.hid hq
  have hqs : q.size = N := by rw [← hq, ByteArray.size_extract]; omega
  have hqp : 0 < q.size := by omega
  have hqm : q.size ≤ 65536 := by omega
  have hql : q.data.toList = (rest s i).take N := by
    rw [← hq]; unfold rest
    rw [ByteArray.data_extract, Array.toList_extract, List.extract_eq_take_drop, Nat.add_sub_cancel_left]
  have HQS := Lib.hid hqs
  have HQE : Hid ((s.extract i (i + N)) = q) := hq
  rw [← hql] at hx
  have HCU := Lib.hid hc
  have HI := fun W => rinteger_any q (by omega) hqp W
  rw [hx] at HI
  simp only [intV] at HI
  have HI := Lib.hid HI
  have x2 : ∀ o : Obj, (w.alloc o).cell? ⟨g, 2, none⟩ = some (.int .i64 a) := fun o => (RCur.alloc HCU.out o).c2
  have x3 : ∀ o : Obj, (w.alloc o).cell? ⟨g, 3, none⟩ = some (.int .i64 b) := fun o => (RCur.alloc HCU.out o).c3
  clear hc hx hql hqs
  go_enter Tryd.func28, Tryd.ntmps28
  go_wp2
  go_quiet (fail)
  go_wp2_with (first | (go_at_call 46; refine (rletter_any _ _).mono ?_; rintro e w' ⟨rfl, rfl⟩) | (go_at_call 47; refine (rdigit_any _ _).mono ?_; rintro e w' ⟨rfl, rfl⟩))
  go_quiet ((go_at_call 49; exact quiet_again (HW _)))
  go_wp2_with (first | (go_at_call 47; refine (rdigit_any _ _).mono ?_; rintro e w' ⟨rfl, rfl⟩) | (go_at_call 50; refine (HI.out _).mono ?_; rintro e w' ⟨rfl, rfl⟩))
  refine bodyPost_ret (v := .tuple #[tokV 2 n [] a b, .int .i64 N, .int .i64 0]) ?_ rfl ⟨rfl, (((((below_drewN' ((Below.refl _ _).alloc (Nat.le_refl _) _) _).setCell (by simp) _).setCell (by simp) _).setCell (by simp) _).setCell (by simp) _).setCell (by simp) _⟩
  rw [← HQS.out]
  simp [results, Tryd.results28, go_sem]

end Go.Proofs.YtoogbgmneabfnaaDoor

namespace Go.Proofs.YtoogbgmneabfnaaDoor
open Go.RowKit M

theorem heap_new_drewN (w : World) (o o2 : Obj) (n : Nat) : (((w.alloc o).drewN n).alloc o2).heap[w.heap.size + 1]? = some o2 := by
  have h := heap_alloc_new ((w.alloc o).drewN n) o2
  have e : ((w.alloc o).drewN n).heap.size = w.heap.size + 1 := by
    show (w.alloc o).heap.size = _
    simp
  rwa [e] at h
theorem below_new_drewN (w : World) (o o2 : Obj) (n : Nat) : Below (w.alloc o).heap.size (w.alloc o) (((w.alloc o).drewN n).alloc o2) := by
  have h : Below (w.alloc o).heap.size (w.alloc o) ((w.alloc o).drewN n) := below_drewN' (Below.refl _ _) n
  exact h.alloc (Nat.le_refl (w.alloc o).heap.size) o2

set_option maxRecDepth 100000 in
set_option maxHeartbeats 2000000 in
theorem ritem_kw (w : World) (g : Nat) (s : ByteArray) (i : Nat) (p : Int × Int) (hc : RCur w g s i p) (hm : s.size ≤ 65536) (hi : i < s.size)
    (N : Nat) (hN0 : 0 < N) (hN : i + N ≤ s.size) (HW : WEnd s i N) (hl : letterB s[i] = true) (hd : digitB s[i] = false) (hx : kwB ((rest s i).take N) = true) :
    Calls Tryd.prog 28 #[.pointer (some ⟨g, 0, none⟩)] w (RItemPost w (.tuple #[tokV 3 0 ((rest s i).take N) p.1 p.2, .int .i64 N, .int .i64 0])) := by
  have d0 := hc.c0
  have d1 := hc.c1
  have d2 := hc.c2
  have d3 := hc.c3
  have hg := hc.lt
  have x0 : ∀ o : Obj, (w.alloc o).cell? ⟨g, 0, none⟩ = some (.string s) := fun o => (RCur.alloc hc o).c0
  have x1 : ∀ o : Obj, (w.alloc o).cell? ⟨g, 1, none⟩ = some (.int .i64 i) := fun o => (RCur.alloc hc o).c1
  have b0 : (0 : Int) ≤ (i : Int) := by omega
  have b1 : (i : Int) < (s.size : Int) := by omega
  have b2 : (i : Int) + (N : Int) ≤ (s.size : Int) := by omega
  obtain ⟨a, b⟩ := p
  simp only at d2 d3
  obtain ⟨q, hq⟩ : ∃ q, s.extract i (i + N) = q := ⟨_, rfl⟩
  have HQ := Lib.hid hq
  have hqs : q.size = N := by rw [← hq, ByteArray.size_extract]; omega
  have hqp : 0 < q.size := by omega
  have hqm : q.size ≤ 65536 := by omega
  have hql : q.data.toList = (rest s i).take N := by
    rw [← hq]; unfold rest
    rw [ByteArray.data_extract, Array.toList_extract, List.extract_eq_take_drop, Nat.add_sub_cancel_left]
  have HQS := Lib.hid hqs
  have HQE : Hid ((s.extract i (i + N)) = q) := hq
  rw [← hql] at hx
  have HCU := Lib.hid hc
  have HK := Lib.hid (fun b W hb => rin_any keywords 25 rfl (by decide) q b W hb)
  have HX := Lib.hid hx
  have HQL : Hid (S ((rest s i).take N) = q) := by unfold Hid; rw [← hql, S_of]
  clear hc hx hql hqs
  go_enter Tryd.func28, Tryd.ntmps28
  go_wp2
  go_quiet (fail)
  go_wp2_with (first | (go_at_call 46; refine (rletter_any _ _).mono ?_; rintro e w' ⟨rfl, rfl⟩) | (go_at_call 47; refine (rdigit_any _ _).mono ?_; rintro e w' ⟨rfl, rfl⟩))
  go_quiet ((go_at_call 49; exact quiet_again (HW _)))
  go_wp2_with fail
  refine (rdigit_any _ _).mono ?_
  rintro e w' ⟨rfl, rfl⟩
  go_wp2_with fail
  refine (rkeywords_any _).mono ?_
  rintro e w0 ⟨rfl, hw0⟩
  have hbk : w0.heap[w.heap.size + 1]? = some (strBlock keywords) := by
    rw [← hw0]
    exact heap_new_drewN w _ _ _
  have HK0 := HK.out (w.heap.size + 1) w0 hbk
  clear hbk
  rw [show keywords.contains q.data.toList = true from HX.out] at HK0
  have HK0 := Lib.hid HK0
  have hw00 := Lib.hid hw0
  clear hw0
  go_wp2_with fail
  refine HK0.out.mono ?_
  rintro e w' ⟨rfl, rfl⟩
  have hB0 : Below ((w.alloc (.cells #[.int .i64 0, .int .i64 0, .string ⟨#[]⟩, .int .i64 0, .int .i64 0] 37)).heap.size) (w.alloc (.cells #[.int .i64 0, .int .i64 0, .string ⟨#[]⟩, .int .i64 0, .int .i64 0] 37)) w0 := by
    rw [← hw00.out]
    exact below_new_drewN w _ _ _
  obtain ⟨hc, hf⟩ := bcell hB0
  have hz : w.heap.size + 1 ≤ w0.heap.size := by have := hB0.size; simp at this; omega
  have k2 : w0.cell? ⟨g, 2, none⟩ = some (.int .i64 a) := by rw [hc g 2 (by simp; omega)]; exact (RCur.alloc HCU.out _).c2
  have k3 : w0.cell? ⟨g, 3, none⟩ = some (.int .i64 b) := by rw [hc g 3 (by simp; omega)]; exact (RCur.alloc HCU.out _).c3
  have HB0 := Lib.hid hB0
  clear hB0
  go_wp2
  obtain ⟨hc, _⟩ := bcell HB0.out
  refine bodyPost_ret (v := .tuple #[tokV 3 0 ((rest s i).take N) a b, .int .i64 N, .int .i64 0]) ?_ rfl ⟨rfl, ?_⟩
  · rw [← HQS.out]
    unfold tokV
    rw [HQS.out, HQL.out, ← HQS.out]
    simp [results, Tryd.results28, go_sem, hc]
  · exact (((((((Below.refl _ _).alloc (Nat.le_refl _) _).trans (HB0.out.mono (by simp))).setCell (by simp) _).setCell (by simp) _).setCell (by simp) _).setCell (by simp) _).setCell (by simp) _

set_option maxRecDepth 100000 in
set_option maxHeartbeats 2000000 in
theorem ritem_name (w : World) (g : Nat) (s : ByteArray) (i : Nat) (p : Int × Int) (hc : RCur w g s i p) (hm : s.size ≤ 65536) (hi : i < s.size)
    (N : Nat) (hN0 : 0 < N) (hN : i + N ≤ s.size) (HW : WEnd s i N) (hl : letterB s[i] = true) (hd : digitB s[i] = false) (hx : kwB ((rest s i).take N) = false) (hn : nameB ((rest s i).take N) = true) :
    Calls Tryd.prog 28 #[.pointer (some ⟨g, 0, none⟩)] w (RItemPost w (.tuple #[tokV 1 0 ((rest s i).take N) p.1 p.2, .int .i64 N, .int .i64 0])) := by
  have d0 := hc.c0
  have d1 := hc.c1
  have d2 := hc.c2
  have d3 := hc.c3
  have hg := hc.lt
  have x0 : ∀ o : Obj, (w.alloc o).cell? ⟨g, 0, none⟩ = some (.string s) := fun o => (RCur.alloc hc o).c0
  have x1 : ∀ o : Obj, (w.alloc o).cell? ⟨g, 1, none⟩ = some (.int .i64 i) := fun o => (RCur.alloc hc o).c1
  have b0 : (0 : Int) ≤ (i : Int) := by omega
  have b1 : (i : Int) < (s.size : Int) := by omega
  have b2 : (i : Int) + (N : Int) ≤ (s.size : Int) := by omega
  obtain ⟨a, b⟩ := p
  simp only at d2 d3
  obtain ⟨q, hq⟩ : ∃ q, s.extract i (i + N) = q := ⟨_, rfl⟩
  have HQ := Lib.hid hq
  have hqs : q.size = N := by rw [← hq, ByteArray.size_extract]; omega
  have hqp : 0 < q.size := by omega
  have hqm : q.size ≤ 65536 := by omega
  have hql : q.data.toList = (rest s i).take N := by
    rw [← hq]; unfold rest
    rw [ByteArray.data_extract, Array.toList_extract, List.extract_eq_take_drop, Nat.add_sub_cancel_left]
  have HQS := Lib.hid hqs
  have HQE : Hid ((s.extract i (i + N)) = q) := hq
  rw [← hql] at hx
  have HCU := Lib.hid hc
  have HK := Lib.hid (fun b W hb => rin_any keywords 25 rfl (by decide) q b W hb)
  have HNM := fun W => rname_any q (by omega) W
  rw [hql, hn] at HNM
  have HNM := Lib.hid HNM
  have HX := Lib.hid hx
  have HQL : Hid (S ((rest s i).take N) = q) := by unfold Hid; rw [← hql, S_of]
  clear hc hx hql hqs hn
  go_enter Tryd.func28, Tryd.ntmps28
  go_wp2
  go_quiet (fail)
  go_wp2_with (first | (go_at_call 46; refine (rletter_any _ _).mono ?_; rintro e w' ⟨rfl, rfl⟩) | (go_at_call 47; refine (rdigit_any _ _).mono ?_; rintro e w' ⟨rfl, rfl⟩))
  go_quiet ((go_at_call 49; exact quiet_again (HW _)))
  go_wp2_with fail
  refine (rdigit_any _ _).mono ?_
  rintro e w' ⟨rfl, rfl⟩
  go_wp2_with fail
  refine (rkeywords_any _).mono ?_
  rintro e w0 ⟨rfl, hw0⟩
  have hbk : w0.heap[w.heap.size + 1]? = some (strBlock keywords) := by
    rw [← hw0]
    exact heap_new_drewN w _ _ _
  have HK0 := HK.out (w.heap.size + 1) w0 hbk
  clear hbk
  rw [show keywords.contains q.data.toList = false from HX.out] at HK0
  have HK0 := Lib.hid HK0
  have hw00 := Lib.hid hw0
  clear hw0
  go_wp2_with fail
  refine HK0.out.mono ?_
  rintro e w' ⟨rfl, rfl⟩
  have hB0 : Below ((w.alloc (.cells #[.int .i64 0, .int .i64 0, .string ⟨#[]⟩, .int .i64 0, .int .i64 0] 37)).heap.size) (w.alloc (.cells #[.int .i64 0, .int .i64 0, .string ⟨#[]⟩, .int .i64 0, .int .i64 0] 37)) w0 := by
    rw [← hw00.out]
    exact below_new_drewN w _ _ _
  obtain ⟨hc, hf⟩ := bcell hB0
  have hz : w.heap.size + 1 ≤ w0.heap.size := by have := hB0.size; simp at this; omega
  have k2 : w0.cell? ⟨g, 2, none⟩ = some (.int .i64 a) := by rw [hc g 2 (by simp; omega)]; exact (RCur.alloc HCU.out _).c2
  have k3 : w0.cell? ⟨g, 3, none⟩ = some (.int .i64 b) := by rw [hc g 3 (by simp; omega)]; exact (RCur.alloc HCU.out _).c3
  have HB0 := Lib.hid hB0
  clear hB0 hc hf hz k2 k3
  go_wp2_with fail
  refine (HNM.out _).mono ?_
  rintro e w1 ⟨rfl, hb1⟩
  have hB1 := HB0.out.trans (hb1.mono HB0.out.size)
  obtain ⟨hc, hf⟩ := bcell hB1
  have hz : w.heap.size + 1 ≤ w1.heap.size := by have := hB1.size; simp at this; omega
  have k2 : w1.cell? ⟨g, 2, none⟩ = some (.int .i64 a) := by rw [hc g 2 (by simp; omega)]; exact (RCur.alloc HCU.out _).c2
  have k3 : w1.cell? ⟨g, 3, none⟩ = some (.int .i64 b) := by rw [hc g 3 (by simp; omega)]; exact (RCur.alloc HCU.out _).c3
  have HB1 := Lib.hid hB1
  clear hB1 hb1
  go_wp2
  obtain ⟨hc, _⟩ := bcell HB1.out
  refine bodyPost_ret (v := .tuple #[tokV 1 0 ((rest s i).take N) a b, .int .i64 N, .int .i64 0]) ?_ rfl ⟨rfl, ?_⟩
  · rw [← HQS.out]
    unfold tokV
    rw [HQS.out, HQL.out, ← HQS.out]
    simp [results, Tryd.results28, go_sem, hc]
  · exact (((((((Below.refl _ _).alloc (Nat.le_refl _) _).trans (HB1.out.mono (by simp))).setCell (by simp) _).setCell (by simp) _).setCell (by simp) _).setCell (by simp) _).setCell (by simp) _

set_option maxRecDepth 100000 in
set_option maxHeartbeats 2000000 in
theorem ritem_long (w : World) (g : Nat) (s : ByteArray) (i : Nat) (p : Int × Int) (hc : RCur w g s i p) (hm : s.size ≤ 65536) (hi : i < s.size)
    (N : Nat) (hN0 : 0 < N) (hN : i + N ≤ s.size) (HW : WEnd s i N) (hl : letterB s[i] = true) (hd : digitB s[i] = false) (hx : kwB ((rest s i).take N) = false) (hn : nameB ((rest s i).take N) = false) :
    Calls Tryd.prog 28 #[.pointer (some ⟨g, 0, none⟩)] w (RItemPost w (.tuple #[tokV 0 0 [] 0 0, .int .i64 0, .int .i64 2])) := by
  have d0 := hc.c0
  have d1 := hc.c1
  have d2 := hc.c2
  have d3 := hc.c3
  have hg := hc.lt
  have x0 : ∀ o : Obj, (w.alloc o).cell? ⟨g, 0, none⟩ = some (.string s) := fun o => (RCur.alloc hc o).c0
  have x1 : ∀ o : Obj, (w.alloc o).cell? ⟨g, 1, none⟩ = some (.int .i64 i) := fun o => (RCur.alloc hc o).c1
  have b0 : (0 : Int) ≤ (i : Int) := by omega
  have b1 : (i : Int) < (s.size : Int) := by omega
  have b2 : (i : Int) + (N : Int) ≤ (s.size : Int) := by omega
  obtain ⟨a, b⟩ := p
  simp only at d2 d3
  obtain ⟨q, hq⟩ : ∃ q, s.extract i (i + N) = q := ⟨_, rfl⟩
  have HQ := Lib.hid hq
  have hqs : q.size = N := by rw [← hq, ByteArray.size_extract]; omega
  have hqp : 0 < q.size := by omega
  have hqm : q.size ≤ 65536 := by omega
  have hql : q.data.toList = (rest s i).take N := by
    rw [← hq]; unfold rest
    rw [ByteArray.data_extract, Array.toList_extract, List.extract_eq_take_drop, Nat.add_sub_cancel_left]
  have HQS := Lib.hid hqs
  have HQE : Hid ((s.extract i (i + N)) = q) := hq
  rw [← hql] at hx
  have HCU := Lib.hid hc
  have HK := Lib.hid (fun b W hb => rin_any keywords 25 rfl (by decide) q b W hb)
  have HNM := fun W => rname_any q (by omega) W
  rw [hql, hn] at HNM
  have HNM := Lib.hid HNM
  have HX := Lib.hid hx
  have HQL : Hid (S ((rest s i).take N) = q) := by unfold Hid; rw [← hql, S_of]
  clear hc hx hql hqs hn
  go_enter Tryd.func28, Tryd.ntmps28
  go_wp2
  go_quiet (fail)
  go_wp2_with (first | (go_at_call 46; refine (rletter_any _ _).mono ?_; rintro e w' ⟨rfl, rfl⟩) | (go_at_call 47; refine (rdigit_any _ _).mono ?_; rintro e w' ⟨rfl, rfl⟩))
  go_quiet ((go_at_call 49; exact quiet_again (HW _)))
  go_wp2_with fail
  refine (rdigit_any _ _).mono ?_
  rintro e w' ⟨rfl, rfl⟩
  go_wp2_with fail
  refine (rkeywords_any _).mono ?_
  rintro e w0 ⟨rfl, hw0⟩
  have hbk : w0.heap[w.heap.size + 1]? = some (strBlock keywords) := by
    rw [← hw0]
    exact heap_new_drewN w _ _ _
  have HK0 := HK.out (w.heap.size + 1) w0 hbk
  clear hbk
  rw [show keywords.contains q.data.toList = false from HX.out] at HK0
  have HK0 := Lib.hid HK0
  have hw00 := Lib.hid hw0
  clear hw0
  go_wp2_with fail
  refine HK0.out.mono ?_
  rintro e w' ⟨rfl, rfl⟩
  have hB0 : Below ((w.alloc (.cells #[.int .i64 0, .int .i64 0, .string ⟨#[]⟩, .int .i64 0, .int .i64 0] 37)).heap.size) (w.alloc (.cells #[.int .i64 0, .int .i64 0, .string ⟨#[]⟩, .int .i64 0, .int .i64 0] 37)) w0 := by
    rw [← hw00.out]
    exact below_new_drewN w _ _ _
  obtain ⟨hc, hf⟩ := bcell hB0
  have hz : w.heap.size + 1 ≤ w0.heap.size := by have := hB0.size; simp at this; omega
  have k2 : w0.cell? ⟨g, 2, none⟩ = some (.int .i64 a) := by rw [hc g 2 (by simp; omega)]; exact (RCur.alloc HCU.out _).c2
  have k3 : w0.cell? ⟨g, 3, none⟩ = some (.int .i64 b) := by rw [hc g 3 (by simp; omega)]; exact (RCur.alloc HCU.out _).c3
  have HB0 := Lib.hid hB0
  clear hB0 hc hf hz k2 k3
  go_wp2_with fail
  refine (HNM.out _).mono ?_
  rintro e w1 ⟨rfl, hb1⟩
  have hB1 := HB0.out.trans (hb1.mono HB0.out.size)
  obtain ⟨hc, hf⟩ := bcell hB1
  have hz : w.heap.size + 1 ≤ w1.heap.size := by have := hB1.size; simp at this; omega
  have k2 : w1.cell? ⟨g, 2, none⟩ = some (.int .i64 a) := by rw [hc g 2 (by simp; omega)]; exact (RCur.alloc HCU.out _).c2
  have k3 : w1.cell? ⟨g, 3, none⟩ = some (.int .i64 b) := by rw [hc g 3 (by simp; omega)]; exact (RCur.alloc HCU.out _).c3
  have HB1 := Lib.hid hB1
  clear hB1 hb1
  go_wp2
  obtain ⟨hc, _⟩ := bcell HB1.out
  refine bodyPost_ret (v := .tuple #[tokV 0 0 [] 0 0, .int .i64 0, .int .i64 2]) ?_ rfl ⟨rfl, ?_⟩
  · simp [results, Tryd.results28, go_sem, hc]
  · exact (((((((Below.refl _ _).alloc (Nat.le_refl _) _).trans (HB1.out.mono (by simp))).setCell (by simp) _).setCell (by simp) _).setCell (by simp) _).setCell (by simp) _).setCell (by simp) _

end Go.Proofs.YtoogbgmneabfnaaDoor

namespace Go.Proofs.YtoogbgmneabfnaaDoor
open Go.RowKit M

theorem take_wlen (l : Bs) : l.take (wlen l) = l.takeWhile contB := by
  unfold wlen
  induction l with
  | nil => rfl
  | cons c r ih =>
    rw [List.takeWhile_cons]
    by_cases h : contB c = true
    · rw [if_pos h, List.length_cons, List.take_succ_cons, ih]
    · rw [if_neg h]; rfl
theorem wlen_take (l : Bs) : wlen (l.take (wlen l)) = wlen l := by
  rw [take_wlen]
  unfold wlen
  induction l with
  | nil => rfl
  | cons c r ih =>
    rw [List.takeWhile_cons]
    by_cases h : contB c = true
    · rw [if_pos h, List.takeWhile_cons, if_pos h, List.length_cons, List.length_cons, ih]
    · rw [if_neg h]; rfl
theorem digit_not_letter (c : UInt8) (h : digitB c = true) : letterB c = false := by
  unfold digitB at h
  unfold letterB
  simp at h ⊢
  omega
theorem word_cont (c : UInt8) (h : (letterB c || digitB c) = true) : contB c = true := by
  unfold contB; rw [h]; rfl

theorem ritem_any (w : World) (g : Nat) (s : ByteArray) (i : Nat) (p : Int × Int) (hc : RCur w g s i p) (hm : s.size ≤ 65536) (hi : i < s.size) :
    Calls Tryd.prog 28 #[.pointer (some ⟨g, 0, none⟩)] w (RItemPost w (ritemV (itemR (rest s i)) (itemN (rest s i)) p)) := by
  have hr := rest_cons s i hi
  have hlen := rest_length s i
  unfold itemR itemN
  cases h : (letterB s[i] || digitB s[i])
  · have h0 : wordN (rest s i) = 0 := by rw [hr]; unfold wordN; simp [h]
    simp only [h0, ne_eq, not_true_eq_false, if_false]
    simp only [Bool.or_eq_false_iff] at h
    by_cases hy : symB (rest s i) = []
    · rw [if_neg (fun k => k hy)]
      exact ritem_nosym w g s i p hc hm hi h.1 h.2 hy
    · rw [if_pos hy]
      exact ritem_sym w g s i p hc hm hi h.1 h.2 _ rfl hy (symB_le _)
  · have hN : wordN (rest s i) = wlen (rest s i) := by
      rw [hr]; unfold wordN; simp only [h, if_true]; rw [wlen_cons, word_cont _ h, if_pos rfl]
    have hN0 : 0 < wlen (rest s i) := by rw [hr, wlen_cons, word_cont _ h, if_pos rfl]; omega
    have hNl : i + wlen (rest s i) ≤ s.size := by have := wlen_le (rest s i); omega
    have HW : WEnd s i (wlen (rest s i)) := fun W => (rwordEnd_any s (by omega) i (by omega) W).mono fun _ _ ⟨a, b⟩ => ⟨a, b.symm⟩
    have hwt := wlen_take (rest s i)
    have hhd : ((rest s i).take (wlen (rest s i))).head? = some s[i] := by
      obtain ⟨n, hn⟩ : ∃ n, wlen (rest s i) = n + 1 := ⟨wlen (rest s i) - 1, by omega⟩
      rw [hn, hr]; rfl
    have htl : ((rest s i).take (wlen (rest s i))).length = wlen (rest s i) := by
      rw [List.length_take]; have := wlen_le (rest s i); omega
    rw [hN, if_pos (by omega), if_pos (by omega)]
    generalize wlen (rest s i) = N at *
    unfold wordR
    rw [hhd]
    cases hd : digitB s[i]
    · have hl : letterB s[i] = true := by rw [hd, Bool.or_false] at h; exact h
      rw [if_neg (by simp [hd])]
      cases hk : kwB ((rest s i).take N)
      · rw [if_neg (by decide)]
        by_cases h64 : ((rest s i).take N).length ≤ 64
        · rw [if_pos h64]
          have hn : nameB ((rest s i).take N) = true := by
            unfold nameB
            rw [hhd, hwt, hk, htl, decide_eq_true hN0, decide_eq_true (by rw [← htl]; exact h64)]
            simp [hl]
          exact ritem_name w g s i p hc hm hi N hN0 hNl HW hl hd hk hn
        · rw [if_neg h64]
          have hn : nameB ((rest s i).take N) = false := by
            unfold nameB
            rw [decide_eq_false h64]; simp
          exact ritem_long w g s i p hc hm hi N hN0 hNl HW hl hd hk hn
      · rw [if_pos rfl]
        exact ritem_kw w g s i p hc hm hi N hN0 hNl HW hl hd hk
    · rw [if_pos (by simp [hd])]
      have hl := digit_not_letter _ hd
      by_cases he : (intR ((rest s i).take N)).err = 0
      · have hx : ∃ n, intR ((rest s i).take N) = ⟨2, n, [], 0⟩ := by
          unfold intR at he ⊢
          split at he
          · exact absurd he (by decide)
          · rename_i h1
            rw [if_neg h1]
            split at he
            · exact absurd he (by decide)
            · rename_i h2
              rw [if_neg h2]
              split at he
              · rename_i h3; rw [if_pos h3]; exact ⟨_, rfl⟩
              · exact absurd he (by decide)
        obtain ⟨n, hx⟩ := hx
        rw [hx]
        exact ritem_digit_ok w g s i p hc hm hi N hN0 hNl HW hl hd n hx
      · have := ritem_digit_bad w g s i p hc hm hi N hN0 hNl HW hl hd _ rfl he
        unfold ritemV
        rw [if_neg he]
        exact this

end Go.Proofs.YtoogbgmneabfnaaDoor
