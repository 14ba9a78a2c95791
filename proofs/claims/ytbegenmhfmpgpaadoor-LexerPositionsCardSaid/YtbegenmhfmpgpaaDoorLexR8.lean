/- What the reference's item returns at keywords and names. -/
import Derived.Test.YtbegenmhfmpgpaaDoorLexR7b
namespace Go.Proofs.YtbegenmhfmpgpaaDoor
open Go.RowKit M

theorem heap_new_drewN (w : World) (o o2 : Obj) (n : Nat) : (((w.alloc o).drewN n).alloc o2).heap[w.heap.size + 1]? = some o2 := by
  have h := heap_alloc_new ((w.alloc o).drewN n) o2
  have e : ((w.alloc o).drewN n).heap.size = w.heap.size + 1 := by
    show (w.alloc o).heap.size = _
    simp
  rwa [e] at h
theorem below_new_drewN (w : World) (o o2 : Obj) (n : Nat) : Below (w.alloc o).heap.size (w.alloc o) (((w.alloc o).drewN n).alloc o2) := by
  have h : Below (w.alloc o).heap.size (w.alloc o) ((w.alloc o).drewN n) := below_drewN' (Below.refl _ _) n
  exact h.alloc (Nat.le_refl (w.alloc o).heap.size) o2

set_option maxRecDepth 100000 in
set_option maxHeartbeats 2000000 in
theorem ritem_kw (w : World) (g : Nat) (s : ByteArray) (i : Nat) (p : Int × Int) (hc : RCur w g s i p) (hm : s.size ≤ 65536) (hi : i < s.size)
    (N : Nat) (hN0 : 0 < N) (hN : i + N ≤ s.size) (HW : WEnd s i N) (hl : letterB s[i] = true) (hd : digitB s[i] = false) (hx : kwB ((rest s i).take N) = true) :
    Calls Tryd.prog 41 #[.pointer (some ⟨g, 0, none⟩)] w (RItemPost w (.tuple #[tokV 3 0 ((rest s i).take N) p.1 p.2, .int .i64 N, .int .i64 0])) := by
  have d0 := hc.c0
  have d1 := hc.c1
  have d2 := hc.c2
  have d3 := hc.c3
  have hg := hc.lt
  have x0 : ∀ o : Obj, (w.alloc o).cell? ⟨g, 0, none⟩ = some (.string s) := fun o => (RCur.alloc hc o).c0
  have x1 : ∀ o : Obj, (w.alloc o).cell? ⟨g, 1, none⟩ = some (.int .i64 i) := fun o => (RCur.alloc hc o).c1
  have b0 : (0 : Int) ≤ (i : Int) := by omega
  have b1 : (i : Int) < (s.size : Int) := by omega
  have b2 : (i : Int) + (N : Int) ≤ (s.size : Int) := by omega
  obtain ⟨a, b⟩ := p
  simp only at d2 d3
  obtain ⟨q, hq⟩ : ∃ q, s.extract i (i + N) = q := ⟨_, rfl⟩
  have HQ := Lib.hid hq
  have hqs : q.size = N := by rw [← hq, ByteArray.size_extract]; omega
  have hqp : 0 < q.size := by omega
  have hqm : q.size ≤ 65536 := by omega
  have hql : q.data.toList = (rest s i).take N := by
    rw [← hq]; unfold rest
    rw [ByteArray.data_extract, Array.toList_extract, List.extract_eq_take_drop, Nat.add_sub_cancel_left]
  have HQS := Lib.hid hqs
  have HQE : Hid ((s.extract i (i + N)) = q) := hq
  rw [← hql] at hx
  have HCU := Lib.hid hc
  have HK := Lib.hid (fun b W hb => rin_any keywords 25 rfl (by decide) q b W hb)
  have HX := Lib.hid hx
  have HQL : Hid (S ((rest s i).take N) = q) := by unfold Hid; rw [← hql, S_of]
  clear hc hx hql hqs
  go_enter Tryd.func41, Tryd.ntmps41
  go_wp2
  go_quiet (fail)
  go_wp2_with (first | (go_at_call 54; refine (rletter_any _ _).mono ?_; rintro e w' ⟨rfl, rfl⟩) | (go_at_call 61; refine (rdigit_any _ _).mono ?_; rintro e w' ⟨rfl, rfl⟩))
  go_quiet ((go_at_call 55; exact quiet_again (HW _)))
  go_wp2_with fail
  refine (rdigit_any _ _).mono ?_
  rintro e w' ⟨rfl, rfl⟩
  go_wp2_with fail
  refine (rkeywords_any _).mono ?_
  rintro e w0 ⟨rfl, hw0⟩
  have hbk : w0.heap[w.heap.size + 1]? = some (strBlock keywords) := by
    rw [← hw0]
    exact heap_new_drewN w _ _ _
  have HK0 := HK.out (w.heap.size + 1) w0 hbk
  clear hbk
  rw [show keywords.contains q.data.toList = true from HX.out] at HK0
  have HK0 := Lib.hid HK0
  have hw00 := Lib.hid hw0
  clear hw0
  go_wp2_with fail
  refine HK0.out.mono ?_
  rintro e w' ⟨rfl, rfl⟩
  have hB0 : Below ((w.alloc (.cells #[.int .i64 0, .int .i64 0, .string ⟨#[]⟩, .int .i64 0, .int .i64 0] 25)).heap.size) (w.alloc (.cells #[.int .i64 0, .int .i64 0, .string ⟨#[]⟩, .int .i64 0, .int .i64 0] 25)) w0 := by
    rw [← hw00.out]
    exact below_new_drewN w _ _ _
  obtain ⟨hc, hf⟩ := bcell hB0
  have hz : w.heap.size + 1 ≤ w0.heap.size := by have := hB0.size; simp at this; omega
  have k2 : w0.cell? ⟨g, 2, none⟩ = some (.int .i64 a) := by rw [hc g 2 (by simp; omega)]; exact (RCur.alloc HCU.out _).c2
  have k3 : w0.cell? ⟨g, 3, none⟩ = some (.int .i64 b) := by rw [hc g 3 (by simp; omega)]; exact (RCur.alloc HCU.out _).c3
  have HB0 := Lib.hid hB0
  clear hB0
  go_wp2
  obtain ⟨hc, _⟩ := bcell HB0.out
  refine bodyPost_ret (v := .tuple #[tokV 3 0 ((rest s i).take N) a b, .int .i64 N, .int .i64 0]) ?_ rfl ⟨rfl, ?_⟩
  · rw [← HQS.out]
    unfold tokV
    rw [HQS.out, HQL.out, ← HQS.out]
    simp [results, Tryd.results41, go_sem, hc]
  · exact (((((((Below.refl _ _).alloc (Nat.le_refl _) _).trans (HB0.out.mono (by simp))).setCell (by simp) _).setCell (by simp) _).setCell (by simp) _).setCell (by simp) _).setCell (by simp) _

set_option maxRecDepth 100000 in
set_option maxHeartbeats 2000000 in
theorem ritem_name (w : World) (g : Nat) (s : ByteArray) (i : Nat) (p : Int × Int) (hc : RCur w g s i p) (hm : s.size ≤ 65536) (hi : i < s.size)
    (N : Nat) (hN0 : 0 < N) (hN : i + N ≤ s.size) (HW : WEnd s i N) (hl : letterB s[i] = true) (hd : digitB s[i] = false) (hx : kwB ((rest s i).take N) = false) (hn : nameB ((rest s i).take N) = true) :
    Calls Tryd.prog 41 #[.pointer (some ⟨g, 0, none⟩)] w (RItemPost w (.tuple #[tokV 1 0 ((rest s i).take N) p.1 p.2, .int .i64 N, .int .i64 0])) := by
  have d0 := hc.c0
  have d1 := hc.c1
  have d2 := hc.c2
  have d3 := hc.c3
  have hg := hc.lt
  have x0 : ∀ o : Obj, (w.alloc o).cell? ⟨g, 0, none⟩ = some (.string s) := fun o => (RCur.alloc hc o).c0
  have x1 : ∀ o : Obj, (w.alloc o).cell? ⟨g, 1, none⟩ = some (.int .i64 i) := fun o => (RCur.alloc hc o).c1
  have b0 : (0 : Int) ≤ (i : Int) := by omega
  have b1 : (i : Int) < (s.size : Int) := by omega
  have b2 : (i : Int) + (N : Int) ≤ (s.size : Int) := by omega
  obtain ⟨a, b⟩ := p
  simp only at d2 d3
  obtain ⟨q, hq⟩ : ∃ q, s.extract i (i + N) = q := ⟨_, rfl⟩
  have HQ := Lib.hid hq
  have hqs : q.size = N := by rw [← hq, ByteArray.size_extract]; omega
  have hqp : 0 < q.size := by omega
  have hqm : q.size ≤ 65536 := by omega
  have hql : q.data.toList = (rest s i).take N := by
    rw [← hq]; unfold rest
    rw [ByteArray.data_extract, Array.toList_extract, List.extract_eq_take_drop, Nat.add_sub_cancel_left]
  have HQS := Lib.hid hqs
  have HQE : Hid ((s.extract i (i + N)) = q) := hq
  rw [← hql] at hx
  have HCU := Lib.hid hc
  have HK := Lib.hid (fun b W hb => rin_any keywords 25 rfl (by decide) q b W hb)
  have HNM := fun W => rname_any q (by omega) W
  rw [hql, hn] at HNM
  have HNM := Lib.hid HNM
  have HX := Lib.hid hx
  have HQL : Hid (S ((rest s i).take N) = q) := by unfold Hid; rw [← hql, S_of]
  clear hc hx hql hqs hn
  go_enter Tryd.func41, Tryd.ntmps41
  go_wp2
  go_quiet (fail)
  go_wp2_with (first | (go_at_call 54; refine (rletter_any _ _).mono ?_; rintro e w' ⟨rfl, rfl⟩) | (go_at_call 61; refine (rdigit_any _ _).mono ?_; rintro e w' ⟨rfl, rfl⟩))
  go_quiet ((go_at_call 55; exact quiet_again (HW _)))
  go_wp2_with fail
  refine (rdigit_any _ _).mono ?_
  rintro e w' ⟨rfl, rfl⟩
  go_wp2_with fail
  refine (rkeywords_any _).mono ?_
  rintro e w0 ⟨rfl, hw0⟩
  have hbk : w0.heap[w.heap.size + 1]? = some (strBlock keywords) := by
    rw [← hw0]
    exact heap_new_drewN w _ _ _
  have HK0 := HK.out (w.heap.size + 1) w0 hbk
  clear hbk
  rw [show keywords.contains q.data.toList = false from HX.out] at HK0
  have HK0 := Lib.hid HK0
  have hw00 := Lib.hid hw0
  clear hw0
  go_wp2_with fail
  refine HK0.out.mono ?_
  rintro e w' ⟨rfl, rfl⟩
  have hB0 : Below ((w.alloc (.cells #[.int .i64 0, .int .i64 0, .string ⟨#[]⟩, .int .i64 0, .int .i64 0] 25)).heap.size) (w.alloc (.cells #[.int .i64 0, .int .i64 0, .string ⟨#[]⟩, .int .i64 0, .int .i64 0] 25)) w0 := by
    rw [← hw00.out]
    exact below_new_drewN w _ _ _
  obtain ⟨hc, hf⟩ := bcell hB0
  have hz : w.heap.size + 1 ≤ w0.heap.size := by have := hB0.size; simp at this; omega
  have k2 : w0.cell? ⟨g, 2, none⟩ = some (.int .i64 a) := by rw [hc g 2 (by simp; omega)]; exact (RCur.alloc HCU.out _).c2
  have k3 : w0.cell? ⟨g, 3, none⟩ = some (.int .i64 b) := by rw [hc g 3 (by simp; omega)]; exact (RCur.alloc HCU.out _).c3
  have HB0 := Lib.hid hB0
  clear hB0 hc hf hz k2 k3
  go_wp2_with fail
  refine (HNM.out _).mono ?_
  rintro e w1 ⟨rfl, hb1⟩
  have hB1 := HB0.out.trans (hb1.mono HB0.out.size)
  obtain ⟨hc, hf⟩ := bcell hB1
  have hz : w.heap.size + 1 ≤ w1.heap.size := by have := hB1.size; simp at this; omega
  have k2 : w1.cell? ⟨g, 2, none⟩ = some (.int .i64 a) := by rw [hc g 2 (by simp; omega)]; exact (RCur.alloc HCU.out _).c2
  have k3 : w1.cell? ⟨g, 3, none⟩ = some (.int .i64 b) := by rw [hc g 3 (by simp; omega)]; exact (RCur.alloc HCU.out _).c3
  have HB1 := Lib.hid hB1
  clear hB1 hb1
  go_wp2
  obtain ⟨hc, _⟩ := bcell HB1.out
  refine bodyPost_ret (v := .tuple #[tokV 1 0 ((rest s i).take N) a b, .int .i64 N, .int .i64 0]) ?_ rfl ⟨rfl, ?_⟩
  · rw [← HQS.out]
    unfold tokV
    rw [HQS.out, HQL.out, ← HQS.out]
    simp [results, Tryd.results41, go_sem, hc]
  · exact (((((((Below.refl _ _).alloc (Nat.le_refl _) _).trans (HB1.out.mono (by simp))).setCell (by simp) _).setCell (by simp) _).setCell (by simp) _).setCell (by simp) _).setCell (by simp) _

set_option maxRecDepth 100000 in
set_option maxHeartbeats 2000000 in
theorem ritem_long (w : World) (g : Nat) (s : ByteArray) (i : Nat) (p : Int × Int) (hc : RCur w g s i p) (hm : s.size ≤ 65536) (hi : i < s.size)
    (N : Nat) (hN0 : 0 < N) (hN : i + N ≤ s.size) (HW : WEnd s i N) (hl : letterB s[i] = true) (hd : digitB s[i] = false) (hx : kwB ((rest s i).take N) = false) (hn : nameB ((rest s i).take N) = false) :
    Calls Tryd.prog 41 #[.pointer (some ⟨g, 0, none⟩)] w (RItemPost w (.tuple #[tokV 0 0 [] 0 0, .int .i64 0, .int .i64 2])) := by
  have d0 := hc.c0
  have d1 := hc.c1
  have d2 := hc.c2
  have d3 := hc.c3
  have hg := hc.lt
  have x0 : ∀ o : Obj, (w.alloc o).cell? ⟨g, 0, none⟩ = some (.string s) := fun o => (RCur.alloc hc o).c0
  have x1 : ∀ o : Obj, (w.alloc o).cell? ⟨g, 1, none⟩ = some (.int .i64 i) := fun o => (RCur.alloc hc o).c1
  have b0 : (0 : Int) ≤ (i : Int) := by omega
  have b1 : (i : Int) < (s.size : Int) := by omega
  have b2 : (i : Int) + (N : Int) ≤ (s.size : Int) := by omega
  obtain ⟨a, b⟩ := p
  simp only at d2 d3
  obtain ⟨q, hq⟩ : ∃ q, s.extract i (i + N) = q := ⟨_, rfl⟩
  have HQ := Lib.hid hq
  have hqs : q.size = N := by rw [← hq, ByteArray.size_extract]; omega
  have hqp : 0 < q.size := by omega
  have hqm : q.size ≤ 65536 := by omega
  have hql : q.data.toList = (rest s i).take N := by
    rw [← hq]; unfold rest
    rw [ByteArray.data_extract, Array.toList_extract, List.extract_eq_take_drop, Nat.add_sub_cancel_left]
  have HQS := Lib.hid hqs
  have HQE : Hid ((s.extract i (i + N)) = q) := hq
  rw [← hql] at hx
  have HCU := Lib.hid hc
  have HK := Lib.hid (fun b W hb => rin_any keywords 25 rfl (by decide) q b W hb)
  have HNM := fun W => rname_any q (by omega) W
  rw [hql, hn] at HNM
  have HNM := Lib.hid HNM
  have HX := Lib.hid hx
  have HQL : Hid (S ((rest s i).take N) = q) := by unfold Hid; rw [← hql, S_of]
  clear hc hx hql hqs hn
  go_enter Tryd.func41, Tryd.ntmps41
  go_wp2
  go_quiet (fail)
  go_wp2_with (first | (go_at_call 54; refine (rletter_any _ _).mono ?_; rintro e w' ⟨rfl, rfl⟩) | (go_at_call 61; refine (rdigit_any _ _).mono ?_; rintro e w' ⟨rfl, rfl⟩))
  go_quiet ((go_at_call 55; exact quiet_again (HW _)))
  go_wp2_with fail
  refine (rdigit_any _ _).mono ?_
  rintro e w' ⟨rfl, rfl⟩
  go_wp2_with fail
  refine (rkeywords_any _).mono ?_
  rintro e w0 ⟨rfl, hw0⟩
  have hbk : w0.heap[w.heap.size + 1]? = some (strBlock keywords) := by
    rw [← hw0]
    exact heap_new_drewN w _ _ _
  have HK0 := HK.out (w.heap.size + 1) w0 hbk
  clear hbk
  rw [show keywords.contains q.data.toList = false from HX.out] at HK0
  have HK0 := Lib.hid HK0
  have hw00 := Lib.hid hw0
  clear hw0
  go_wp2_with fail
  refine HK0.out.mono ?_
  rintro e w' ⟨rfl, rfl⟩
  have hB0 : Below ((w.alloc (.cells #[.int .i64 0, .int .i64 0, .string ⟨#[]⟩, .int .i64 0, .int .i64 0] 25)).heap.size) (w.alloc (.cells #[.int .i64 0, .int .i64 0, .string ⟨#[]⟩, .int .i64 0, .int .i64 0] 25)) w0 := by
    rw [← hw00.out]
    exact below_new_drewN w _ _ _
  obtain ⟨hc, hf⟩ := bcell hB0
  have hz : w.heap.size + 1 ≤ w0.heap.size := by have := hB0.size; simp at this; omega
  have k2 : w0.cell? ⟨g, 2, none⟩ = some (.int .i64 a) := by rw [hc g 2 (by simp; omega)]; exact (RCur.alloc HCU.out _).c2
  have k3 : w0.cell? ⟨g, 3, none⟩ = some (.int .i64 b) := by rw [hc g 3 (by simp; omega)]; exact (RCur.alloc HCU.out _).c3
  have HB0 := Lib.hid hB0
  clear hB0 hc hf hz k2 k3
  go_wp2_with fail
  refine (HNM.out _).mono ?_
  rintro e w1 ⟨rfl, hb1⟩
  have hB1 := HB0.out.trans (hb1.mono HB0.out.size)
  obtain ⟨hc, hf⟩ := bcell hB1
  have hz : w.heap.size + 1 ≤ w1.heap.size := by have := hB1.size; simp at this; omega
  have k2 : w1.cell? ⟨g, 2, none⟩ = some (.int .i64 a) := by rw [hc g 2 (by simp; omega)]; exact (RCur.alloc HCU.out _).c2
  have k3 : w1.cell? ⟨g, 3, none⟩ = some (.int .i64 b) := by rw [hc g 3 (by simp; omega)]; exact (RCur.alloc HCU.out _).c3
  have HB1 := Lib.hid hB1
  clear hB1 hb1
  go_wp2
  obtain ⟨hc, _⟩ := bcell HB1.out
  refine bodyPost_ret (v := .tuple #[tokV 0 0 [] 0 0, .int .i64 0, .int .i64 2]) ?_ rfl ⟨rfl, ?_⟩
  · simp [results, Tryd.results41, go_sem, hc]
  · exact (((((((Below.refl _ _).alloc (Nat.le_refl _) _).trans (HB1.out.mono (by simp))).setCell (by simp) _).setCell (by simp) _).setCell (by simp) _).setCell (by simp) _).setCell (by simp) _

end Go.Proofs.YtbegenmhfmpgpaaDoor
