/- What the reference's item returns. -/
import Derived.Test.YtbegenmhfmpgpaaDoorLexR6
import Derived.Deep.RegionHeld3
namespace Go.Proofs.YtbegenmhfmpgpaaDoor
open Go.RowKit M

/-- what the reference's item returns of an item, its size and its position -/
def ritemV (t : TR) (n : Nat) (p : Int × Int) : Value :=
  if t.err = 0 then .tuple #[tokV t.kind t.num t.str p.1 p.2, .int .i64 n, .int .i64 0] else .tuple #[tokV 0 0 [] 0 0, .int .i64 0, .int .i64 t.err]

def RItemPost (w : World) (v : Value) (e : Ending) (w' : World) : Prop := e = .returned v ∧ Below w.heap.size w w'

/-- symbolAt, with the two cells that the region beside it reads -/
theorem rsym_held (s : ByteArray) (hm : s.size ≤ 65536) (i : Nat) (hi : i ≤ s.size) (g : Nat) (W : World) (hg : g < W.heap.size) (h0 : W.cell? ⟨g, 0, none⟩ = some (.string s)) (h1 : W.cell? ⟨g, 1, none⟩ = some (.int .i64 i)) :
    Calls Tryd.prog 62 #[.string s, .int .i64 i] W fun e w' => e = .returned (.string (S (symB (rest s i)))) ∧ w'.cell? ⟨g, 0, none⟩ = some (.string s) ∧ w'.cell? ⟨g, 1, none⟩ = some (.int .i64 i) ∧ Below W.heap.size W w' :=
  (rsym_loop s hm i hi W).mono fun _ _ ⟨he, hb⟩ => ⟨he, (hb.cell (p := ⟨g, 0, none⟩) hg).trans h0, (hb.cell (p := ⟨g, 1, none⟩) hg).trans h1, hb⟩

set_option maxRecDepth 100000 in
set_option maxHeartbeats 2000000 in
theorem ritem_nosym (w : World) (g : Nat) (s : ByteArray) (i : Nat) (p : Int × Int) (hc : RCur w g s i p) (hm : s.size ≤ 65536) (hi : i < s.size)
    (hl : letterB s[i] = false) (hd : digitB s[i] = false) (hy : symB (rest s i) = []) :
    Calls Tryd.prog 41 #[.pointer (some ⟨g, 0, none⟩)] w (RItemPost w (.tuple #[tokV 0 0 [] 0 0, .int .i64 0, .int .i64 2])) := by
  have HS := Lib.hid (fun W hg h0 h1 => rsym_held s hm i (by omega) g W hg h0 h1)
  rw [hy] at HS
  have hg := hc.lt
  have d0 := hc.c0
  have d1 := hc.c1
  have x0 : ∀ o : Obj, (w.alloc o).cell? ⟨g, 0, none⟩ = some (.string s) := fun o => (RCur.alloc hc o).c0
  have x1 : ∀ o : Obj, (w.alloc o).cell? ⟨g, 1, none⟩ = some (.int .i64 i) := fun o => (RCur.alloc hc o).c1
  have b0 : (0 : Int) ≤ (i : Int) := by omega
  have b1 : (i : Int) < (s.size : Int) := by omega
  clear hc hy
  go_enter Tryd.func41, Tryd.ntmps41
  go_wp2
  go_quiet (fail)
  go_wp2_with (first | (go_at_call 54; refine (rletter_any _ _).mono ?_; rintro e w' ⟨rfl, rfl⟩) | (go_at_call 61; refine (rdigit_any _ _).mono ?_; rintro e w' ⟨rfl, rfl⟩))
  go_region_held3 (fun w' => w'.cell? ⟨g, 0, none⟩ = some (.string s) ∧ w'.cell? ⟨g, 1, none⟩ = some (.int .i64 i)) (go_keep)
    (first | (go_at_call 62; refine (HS.out _ ?_ ?_ ?_).mono ?_; (simp; omega); (simp [*]); (simp [*]); rintro e w1 ⟨rfl, hk0, hk1, hb1⟩))
  obtain ⟨hc, hf⟩ := bcell hb1
  have hz : w.heap.size + 1 ≤ w1.heap.size := by have := hb1.size; simp at this; omega
  go_wp2
  obtain ⟨hc, _⟩ := bcell hb1
  refine bodyPost_ret (v := .tuple #[tokV 0 0 [] 0 0, .int .i64 0, .int .i64 2]) ?_ rfl ⟨rfl, ?_⟩
  · simp [results, Tryd.results41, go_sem, hc]
  · exact (((((((below_drewN' ((Below.refl _ _).alloc (Nat.le_refl _) _) _).trans (hb1.mono (by simp))).setCell (by simp) _).setCell (by simp) _).setCell (by simp) _).setCell (by simp) _).setCell (by simp) _)

set_option maxRecDepth 100000 in
set_option maxHeartbeats 2000000 in
theorem ritem_sym (w : World) (g : Nat) (s : ByteArray) (i : Nat) (p : Int × Int) (hc : RCur w g s i p) (hm : s.size ≤ 65536) (hi : i < s.size)
    (hl : letterB s[i] = false) (hd : digitB s[i] = false) (y : Bs) (hy : symB (rest s i) = y) (hne : y ≠ []) (hyl : y.length ≤ 4) :
    Calls Tryd.prog 41 #[.pointer (some ⟨g, 0, none⟩)] w (RItemPost w (.tuple #[tokV 4 0 y p.1 p.2, .int .i64 y.length, .int .i64 0])) := by
  have HS := Lib.hid (fun W hg h0 h1 => rsym_held s hm i (by omega) g W hg h0 h1)
  rw [hy] at HS
  obtain ⟨e1, e2⟩ := notEmpty (S y) (isEmptyS y hne)
  have HY : Hid ((S y).size = y.length) := rfl
  have hq4 : (S y).size ≤ 4 := by rw [HY.out]; exact hyl
  have hg := hc.lt
  have d0 := hc.c0
  have d1 := hc.c1
  have d2 := hc.c2
  have d3 := hc.c3
  have x0 : ∀ o : Obj, (w.alloc o).cell? ⟨g, 0, none⟩ = some (.string s) := fun o => (RCur.alloc hc o).c0
  have x1 : ∀ o : Obj, (w.alloc o).cell? ⟨g, 1, none⟩ = some (.int .i64 i) := fun o => (RCur.alloc hc o).c1
  have b0 : (0 : Int) ≤ (i : Int) := by omega
  have b1 : (i : Int) < (s.size : Int) := by omega
  obtain ⟨a, b⟩ := p
  simp only at d2 d3
  obtain ⟨q, hq⟩ : ∃ q, S y = q := ⟨_, rfl⟩
  rw [hq] at HS e1 e2 HY hq4
  have HQ := Lib.hid hq
  have HCU := Lib.hid hc
  clear hc hy hq hyl hne
  go_enter Tryd.func41, Tryd.ntmps41
  go_wp2
  go_quiet (fail)
  go_wp2_with (first | (go_at_call 54; refine (rletter_any _ _).mono ?_; rintro e w' ⟨rfl, rfl⟩) | (go_at_call 61; refine (rdigit_any _ _).mono ?_; rintro e w' ⟨rfl, rfl⟩))
  go_region_held3 (fun w' => w'.cell? ⟨g, 0, none⟩ = some (.string s) ∧ w'.cell? ⟨g, 1, none⟩ = some (.int .i64 i)) (go_keep)
    (first | (go_at_call 62; refine (HS.out _ ?_ ?_ ?_).mono ?_; (simp; omega); (simp [*]); (simp [*]); rintro e w1 ⟨rfl, hk0, hk1, hb1⟩))
  obtain ⟨hc, hf⟩ := bcell hb1
  have hz : w.heap.size + 1 ≤ w1.heap.size := by have := hb1.size; simp at this; omega
  have k2 : w1.cell? ⟨g, 2, none⟩ = some (.int .i64 a) := by rw [hc g 2 (by simp; omega)]; exact (RCur.alloc HCU.out _).c2
  have k3 : w1.cell? ⟨g, 3, none⟩ = some (.int .i64 b) := by rw [hc g 3 (by simp; omega)]; exact (RCur.alloc HCU.out _).c3
  go_wp2
  obtain ⟨hc, _⟩ := bcell hb1
  refine bodyPost_ret (v := .tuple #[tokV 4 0 y a b, .int .i64 y.length, .int .i64 0]) ?_ rfl ⟨rfl, ?_⟩
  · rw [← HY.out]
    unfold tokV
    rw [HQ.out]
    simp [results, Tryd.results41, go_sem, hc]
  · exact (((((((below_drewN' ((Below.refl _ _).alloc (Nat.le_refl _) _) _).trans (hb1.mono (by simp))).setCell (by simp) _).setCell (by simp) _).setCell (by simp) _).setCell (by simp) _).setCell (by simp) _)

theorem quiet_again {P : Program} {f : FuncId} {args : Array Value} {w : World} {a n : Nat} {v : Value}
    (h : Calls P f args (w.drewN (a + n)) fun e w' => e = .returned v ∧ w' = w.drewN (a + n)) :
    Calls P f args (w.drewN (a + n)) fun e w'' => e = .returned v ∧ ∃ m, w'' = w.drewN (a + m) :=
  h.mono fun _ _ ⟨he, hm⟩ => ⟨he, n, hm⟩

/-- what wordEnd returns at an index -/
def WEnd (s : ByteArray) (i N : Nat) : Prop := ∀ W, Calls Tryd.prog 55 #[.string s, .int .i64 i] W fun e w' => e = .returned (.int .i64 (i + N : Nat)) ∧ w' = W

end Go.Proofs.YtbegenmhfmpgpaaDoor
