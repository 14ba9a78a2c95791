/- What the lexer's cursor does: advance and skip move the one block that the cursor is. -/
import Derived.Test.YtbegenmhfmpgpaaDoorLexW7
namespace Go.Proofs.YtbegenmhfmpgpaaDoor
open Go.RowKit M

/-- block g is a cursor: the bytes left, the line, the column -/
def Cur (w : World) (g : Nat) (s : ByteArray) (p : Int × Int) : Prop := w.heap[g]? = some (.cells #[.string s, .int .i64 p.1, .int .i64 p.2] 64 (0, 0))

section
variable {w w' : World} {g : Nat} {s : ByteArray} {p : Int × Int}
theorem Cur.lt (h : Cur w g s p) : g < w.heap.size := by
  rcases Nat.lt_or_ge g w.heap.size with hlt | hge
  · exact hlt
  · unfold Cur at h; rw [Array.getElem?_eq_none hge] at h; cases h
theorem Cur.c0 (h : Cur w g s p) : w.cell? ⟨g, 0, none⟩ = some (.string s) := cell_of_row w g 0 _ _ _ h
theorem Cur.c1 (h : Cur w g s p) : w.cell? ⟨g, 1, none⟩ = some (.int .i64 p.1) := cell_of_row w g 1 _ _ _ h
theorem Cur.c2 (h : Cur w g s p) : w.cell? ⟨g, 2, none⟩ = some (.int .i64 p.2) := cell_of_row w g 2 _ _ _ h
theorem Cur.f (h : Cur w g s p) (i : Nat) : w.frozen? ⟨g, i, none⟩ = false := by
  unfold Cur at h; simp [World.frozen?, h]
theorem Cur.set0 (h : Cur w g s p) (t : ByteArray) : Cur (w.setCell ⟨g, 0, none⟩ (.string t)) g t p := by
  unfold Cur at h ⊢
  simp [World.setCell, Array.getElem?_modify, h]
theorem Cur.set1 (h : Cur w g s p) (n : Int) : Cur (w.setCell ⟨g, 1, none⟩ (.int .i64 n)) g s (n, p.2) := by
  unfold Cur at h ⊢
  simp [World.setCell, Array.getElem?_modify, h]
theorem Cur.set2 (h : Cur w g s p) (n : Int) : Cur (w.setCell ⟨g, 2, none⟩ (.int .i64 n)) g s (p.1, n) := by
  unfold Cur at h ⊢
  simp [World.setCell, Array.getElem?_modify, h]
theorem Cur.grown {row : Option Nat} (h : Cur w g s p) (hg : w.grownBy w' row) (hr : some g ≠ row) : Cur w' g s p := (hg.block g h.lt hr).trans h
end

theorem only_set {a w : World} {g : Nat} (h : a.grownBy w (some g)) (o : Nat) (u : Value) : a.grownBy (w.setCell ⟨g, o, none⟩ u) (some g) :=
  ⟨h.os, h.tape, h.output, by simpa [World.setCell] using h.size, fun i hi hne => (Below.heap_setCell w _ u i (fun e => hne (by rw [e]))).trans (h.block i hi hne)⟩
theorem only_refl (a : World) (row : Option Nat) : a.grownBy a row := ⟨rfl, rfl, rfl, Nat.le_refl _, fun _ _ _ => rfl⟩
theorem only_trans {a b c : World} {row : Option Nat} (h : a.grownBy b row) (k : b.grownBy c row) : a.grownBy c row :=
  ⟨k.os.trans h.os, k.tape.trans h.tape, k.output.trans h.output, Nat.le_trans h.size k.size, fun i hi hne => (k.block i (Nat.lt_of_lt_of_le hi h.size) hne).trans (h.block i hi hne)⟩

theorem posA_take (p : Int × Int) (s : ByteArray) (k : Nat) (h : k < s.size) : posA p (s.data.toList.take (k + 1)) = stepP (posA p (s.data.toList.take k)) s[k] := by
  have e : s.data.toList.take (k + 1) = s.data.toList.take k ++ [s[k]] := by
    rw [List.take_succ_eq_append_getElem (by simpa using h)]; rfl
  rw [e, posA_append]; rfl

set_option maxHeartbeats 1000000 in
theorem advance_any (w : World) (g : Nat) (s : ByteArray) (p : Int × Int) (hc : Cur w g s p) (hm : s.size ≤ 65536) (n : Nat) (hn : n ≤ s.size)
    (h1 : 0 ≤ p.1) (h2 : p.1 ≤ 1000000) (h3 : 0 ≤ p.2) (h4 : p.2 ≤ 1000000) :
    Calls Tryd.prog 36 #[.pointer (some ⟨g, 0, none⟩), .int .i64 n] w fun e w' => e = .returned (.tuple #[]) ∧ Cur w' g (s.extract n s.size) (posA p (s.data.toList.take n)) ∧ w.grownBy w' (some g) := by
  have HC := Lib.hid hc
  clear hc
  go_enter Tryd.func36, Tryd.ntmps36
  go_wp2
  go_loopw [4] (fun t wr => ∃ k : Nat, k ≤ n ∧ t = .int .i64 k ∧ Hid (Cur wr g s (posA p (s.data.toList.take k))) ∧ Hid (w.grownBy wr (some g))) (fun t _ => n - (intOf t).toNat)
  case atStart => exact ⟨0, by omega, rfl, HC, only_refl _ _⟩
  case round =>
    obtain ⟨k, hk, rfl, hC, hG⟩ := hrel
    by_cases hlt : k < n
    · have hp := posA_take p s k (by omega)
      have hb := posA_bound (s.data.toList.take k) p h1 h3
      have hl : (s.data.toList.take k).length ≤ k := List.length_take_le _ _
      generalize posA p (s.data.toList.take k) = q at *
      obtain ⟨a, b⟩ := q
      obtain ⟨b1, b2, b3, b4⟩ := hb
      simp only at b1 b2 b3 b4
      have a2 : a ≤ 2000000 := by omega
      have a4 : b ≤ 2000000 := by omega
      have d0 : wr.cell? ⟨g, 0, none⟩ = some (.string s) := hC.out.c0
      have d1 : wr.cell? ⟨g, 1, none⟩ = some (.int .i64 a) := hC.out.c1
      have d2 : wr.cell? ⟨g, 2, none⟩ = some (.int .i64 b) := hC.out.c2
      have f0 := hC.out.f 0
      have f1 := hC.out.f 1
      have f2 := hC.out.f 2
      have hks : k < s.size := by omega
      clear b2 b4 hl
      by_cases ht : s[k].toNat = 10
      · have hq : Hid (posA p (s.data.toList.take (k + 1)) = (a + 1, 1)) := by
          unfold Hid; rw [hp]; unfold stepP; rw [if_pos ht]
        have hv := cast_to _ _ ht
        clear hp ht
        go_wp2
        go_roundw
        case rel => exact ⟨k + 1, by omega, by go_num, by unfold Hid; rw [hq.out]; exact ((hC.out.set2 _).set1 _).set2 _, only_set (only_set (only_set hG.out _ _) _ _) _ _⟩
        case measure => simp [intOf]; omega
      · have hq : Hid (posA p (s.data.toList.take (k + 1)) = (a, b + 1)) := by
          unfold Hid; rw [hp]; unfold stepP; rw [if_neg ht]
        have g0 : ((s[k].toNat : Int) == 10) = false := beq_eq_false_iff_ne.2 (by omega)
        clear hp ht
        go_wp2
        go_roundw
        case rel => exact ⟨k + 1, by omega, by go_num, by unfold Hid; rw [hq.out]; exact hC.out.set2 _, only_set hG.out _ _⟩
        case measure => simp [intOf]; omega
    · have hkn : n = k := by omega
      subst hkn
      have d0 : wr.cell? ⟨g, 0, none⟩ = some (.string s) := hC.out.c0
      have f0 := hC.out.f 0
      go_wp2
      go_end0
      exact ⟨rfl, hC.out.set0 _, only_set hG.out _ _⟩

theorem skF_step (f : Nat) (l : Bs) (n : Nat) : skF (f + 1) l n = if (gapR l).2 = false ∨ (gapR l).1 = 0 then (n, (gapR l).2) else skF f (l.drop (gapR l).1) (n + (gapR l).1) := rfl

theorem extract_extract (s : ByteArray) (a n : Nat) : (s.extract a s.size).extract n (s.extract a s.size).size = s.extract (a + n) s.size := by
  apply WideShapes.bytes_inj
  rw [extract_rest, extract_rest]
  unfold rest
  rw [extract_drop, List.drop_drop]
theorem extract_take' (s : ByteArray) (a n : Nat) : (s.extract a s.size).data.toList.take n = (s.data.toList.drop a).take n := by rw [extract_drop]

theorem posA_next (p : Int × Int) (s : ByteArray) (a n : Nat) : posA (posA p (s.data.toList.take a)) ((s.extract a s.size).data.toList.take n) = posA p (s.data.toList.take (a + n)) := by
  rw [← posA_append, extract_drop, List.take_add]

/-- how many bytes are left -/
def remN (w : World) (g : Nat) : Nat := match w.cell? ⟨g, 0, none⟩ with
  | some (.string s) => s.size
  | _ => 0

def skV (n : Nat × Bool) (w : World) (g : Nat) (s : ByteArray) (p : Int × Int) (e : Ending) (w' : World) : Prop :=
  e = .returned (.bool n.2) ∧ Cur w' g (s.extract n.1 s.size) (posA p (s.data.toList.take n.1)) ∧ w.grownBy w' (some g)

set_option maxHeartbeats 1000000 in
theorem skip_any (w : World) (g : Nat) (s : ByteArray) (p : Int × Int) (hc : Cur w g s p) (hm : s.size ≤ 65536)
    (h1 : 0 ≤ p.1) (h2 : p.1 ≤ 100000) (h3 : 0 ≤ p.2) (h4 : p.2 ≤ 100000) :
    Calls Tryd.prog 35 #[.pointer (some ⟨g, 0, none⟩)] w (skV (skF (s.size + 1) s.data.toList 0) w g s p) := by
  have hR : Hid (skF (s.size + 1) s.data.toList 0 = skF (s.size + 1) (rest s 0) 0) := rfl
  have HC : Hid (Cur w g (s.extract 0 s.size) (posA p (s.data.toList.take 0))) := by unfold Hid; rw [ByteArray.extract_zero_size]; exact hc
  clear hc
  generalize skF (s.size + 1) s.data.toList 0 = R at *
  go_enter Tryd.func35, Tryd.ntmps35
  go_wp2
  go_loopw [3] (fun _ wr => ∃ k f : Nat, k ≤ s.size ∧ s.size + 1 ≤ f + k ∧ Hid (R = skF f (rest s k) k) ∧ Hid (Cur wr g (s.extract k s.size) (posA p (s.data.toList.take k))) ∧ Hid (w.grownBy wr (some g))) (fun _ wr => remN wr g)
  case atStart => exact ⟨0, s.size + 1, by omega, by omega, hR, HC, only_refl _ _⟩
  case round =>
    clear hR HC
    obtain ⟨k, f, hk, hf, hR, hC, hG⟩ := hrel
    obtain ⟨f, rfl⟩ : ∃ x, f = x + 1 := ⟨f - 1, by omega⟩
    have hs := skF_step f (rest s k) k
    have hle := gapR_le (rest s k)
    rw [rest_length] at hle
    have hgap : ∀ W, Calls Tryd.prog 58 #[.string (s.extract k s.size)] W fun e w' => e = .returned (gapV (gapR (rest s k))) ∧ W = w' := fun W => by
      have := gap_any (s.extract k s.size) (by rw [ByteArray.size_extract]; omega) W
      rw [extract_rest] at this
      exact this
    have hd := rest_drop s k (gapR (rest s k)).1
    generalize hgg : gapR (rest s k) = gg at *
    obtain ⟨m, ok⟩ := gg
    simp only at hs hle hd
    unfold gapV at hgap
    have HG := Lib.hid hgap
    have d0 : wr.cell? ⟨g, 0, none⟩ = some (.string (s.extract k s.size)) := hC.out.c0
    clear hgap hgg
    cases ok
    · rw [if_pos (.inl rfl)] at hs
      have hz : Hid (R = (k, false)) := hR.out.trans hs
      clear hs hR hd
      go_wp2_with fail
      refine (HG.out _).mono ?_
      rintro e w' ⟨rfl, rfl⟩
      go_wp2
      go_ret
      rw [hz.out]
      exact ⟨rfl, hC.out, hG.out⟩
    · by_cases hm0 : m = 0
      · subst hm0
        rw [if_pos (.inr rfl)] at hs
        have hz : Hid (R = (k, true)) := hR.out.trans hs
        clear hs hR hd
        go_wp2_with fail
        refine (HG.out _).mono ?_
        rintro e w' ⟨rfl, rfl⟩
        go_wp2
        go_ret
        rw [hz.out]
        exact ⟨rfl, hC.out, hG.out⟩
      · rw [if_neg (by simp [hm0]), hd] at hs
        have hz : Hid (R = skF f (rest s (k + m)) (k + m)) := hR.out.trans hs
        have g0 : ((m : Int) == 0) = false := beq_eq_false_iff_ne.2 (by omega)
        have hb := posA_bound (s.data.toList.take k) p h1 h3
        have hl : (s.data.toList.take k).length ≤ k := List.length_take_le _ _
        have hrem : Hid (remN wr g = s.size - k) := by unfold Hid remN; rw [d0]; simp [ByteArray.size_extract]
        have HA := fun W hc => advance_any W g (s.extract k s.size) (posA p (s.data.toList.take k)) hc (by rw [ByteArray.size_extract]; omega) m (by rw [ByteArray.size_extract]; omega) (by omega) (by omega) (by omega) (by omega)
        have HA := Lib.hid HA
        have hm1 : 0 < m := by omega
        clear hs hR hd hb hl hm0
        go_wp2_with fail
        refine (HG.out _).mono ?_
        rintro e w' ⟨rfl, rfl⟩
        go_wp2_with fail
        refine (HA.out _ hC.out).mono ?_
        rintro e w1 ⟨rfl, hC1, hG1⟩
        have HC1 : Hid (Cur w1 g (s.extract (k + m) s.size) (posA p (s.data.toList.take (k + m)))) := by
          unfold Hid; rw [extract_extract, posA_next] at hC1; exact hC1
        have HG1 : Hid (w.grownBy w1 (some g)) := only_trans hG.out hG1
        clear hC1 hG1
        go_wp2
        go_roundw
        case rel => exact ⟨k + m, f, by omega, by omega, hz, HC1, HG1⟩
        case measure =>
          rw [hrem.out]
          unfold remN
          rw [HC1.out.c0]
          simp only [ByteArray.size_extract]
          omega

end Go.Proofs.YtbegenmhfmpgpaaDoor
