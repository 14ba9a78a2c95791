/- The program's add: one token of the argument. Conditions: strings of at most 2^47 bytes, fewer than a thousand million tokens; strconv.ErrRange holds an interface value. -/
import Derived.Test.YtoogbgmneabfnaaDoorG13
namespace Go.Proofs.YtoogbgmneabfnaaDoor
open Go.RowKit M

/-- the five cells of a token's box and the builder's last position -/
def SevenAt (g bx : Nat) (t : TR) (a b la lb : Int) (W : World) : Prop :=
  W.cell? ⟨bx, 0, none⟩ = some (.int .i64 t.kind) ∧ W.cell? ⟨bx, 1, none⟩ = some (.int .i64 t.num) ∧ W.cell? ⟨bx, 2, none⟩ = some (.string (S t.str)) ∧
    W.cell? ⟨bx, 3, none⟩ = some (.int .i64 a) ∧ W.cell? ⟨bx, 4, none⟩ = some (.int .i64 b) ∧ W.cell? ⟨g, 2, none⟩ = some (.int .i64 la) ∧ W.cell? ⟨g, 3, none⟩ = some (.int .i64 lb)
theorem SevenAt.below {g bx : Nat} {t : TR} {a b la lb : Int} {W W' : World} (h : SevenAt g bx t a b la lb W) (hg : g < W.heap.size) (hb : bx < W.heap.size) (hw : Below W.heap.size W W') : SevenAt g bx t a b la lb W' :=
  ⟨(hw.cell (p := ⟨bx, 0, none⟩) hb).trans h.1, (hw.cell (p := ⟨bx, 1, none⟩) hb).trans h.2.1, (hw.cell (p := ⟨bx, 2, none⟩) hb).trans h.2.2.1, (hw.cell (p := ⟨bx, 3, none⟩) hb).trans h.2.2.2.1, (hw.cell (p := ⟨bx, 4, none⟩) hb).trans h.2.2.2.2.1,
    (hw.cell (p := ⟨g, 2, none⟩) hg).trans h.2.2.2.2.2.1, (hw.cell (p := ⟨g, 3, none⟩) hg).trans h.2.2.2.2.2.2⟩
/-- Valid, with the cells that the region beside it reads -/
theorem valid_held (t : TR) (a b la lb : Int) (hs : t.str.length ≤ 140737488355328) (g bx : Nat) (W : World) (hr : RangeVar W) (hg : g < W.heap.size) (hb : bx < W.heap.size) (h : SevenAt g bx t a b la lb W) :
    Calls Tryd.prog 31 #[tkV t a b] W fun e w' => e = .returned (.bool (valT t)) ∧ SevenAt g bx t a b la lb w' ∧ Below W.heap.size W w' :=
  (valid_any t a b hs W hr).mono fun _ _ ⟨he, hw⟩ => ⟨he, h.below hg hb hw, hw⟩
theorem after_held (t : TR) (a b la lb : Int) (g bx : Nat) (W : World) (hg : g < W.heap.size) (hb : bx < W.heap.size) (h : SevenAt g bx t a b la lb W) :
    Calls Tryd.prog 32 #[posV a b, posV la lb] W fun e w' => e = .returned (.bool (isAft (a, b) (la, lb))) ∧ SevenAt g bx t a b la lb w' ∧ Below W.heap.size W w' :=
  (after_any W (a, b) (la, lb)).mono fun _ _ ⟨he, hw⟩ => ⟨he, h.below hg hb hw, hw⟩

theorem RangeVar.drew {w : World} (h : RangeVar w) : RangeVar w.drew := h.below (below_drew (Below.refl _ _))
theorem RangeVar.drewN {w : World} (h : RangeVar w) (n : Nat) : RangeVar (w.drewN n) := h.below ⟨rfl, rfl, rfl, Nat.le_refl _, fun _ _ => rfl⟩
def AddPost (w : World) (Pr : Nat → Prop) (g : Nat) (r : Int × LSt) (e : Ending) (w' : World) : Prop :=
  e = .returned (.int .i64 r.1) ∧ (r.1 = 0 → BSt w' Pr g r.2) ∧ Keep Pr w w'

set_option maxRecDepth 100000 in
set_option maxHeartbeats 3200000 in
theorem add_bad (w : World) (Pr : Nat → Prop) (g : Nat) (s : LSt) (t : TR) (a b : Int) (h : BSt w Pr g s) (hr : RangeVar w) (hs : t.str.length ≤ 140737488355328)
    (hV : valT t = false) : Calls Tryd.prog 17 #[.pointer (some ⟨g, 0, none⟩), tkV t a b] w (AddPost w Pr g (1, s)) := by
  have HL := Lib.hid h.lt
  have HB0 := Lib.hid (h.more (.cells #[.int .i64 t.kind, .int .i64 t.num, .string (S t.str), .int .i64 a, .int .i64 b] 37))
  have HR := Lib.hid hr
  obtain ⟨vt, vc, hBA⟩ := HB0.out
  have k2 : (w.alloc (.cells #[.int .i64 t.kind, .int .i64 t.num, .string (S t.str), .int .i64 a, .int .i64 b] 37)).cell? ⟨g, 2, none⟩ = some (.int .i64 s.last.1) := hBA.blk.cell 2
  have k3 : (w.alloc (.cells #[.int .i64 t.kind, .int .i64 t.num, .string (S t.str), .int .i64 a, .int .i64 b] 37)).cell? ⟨g, 3, none⟩ = some (.int .i64 s.last.2) := hBA.blk.cell 3
  have hgl : g < w.heap.size := by obtain ⟨_, _, q⟩ := h; exact q.blk.lt
  have HVH := Lib.hid (fun W h => valid_any t a b hs W h)
  rw [hV] at HVH
  clear h hr hs hV hBA
  go_enter Tryd.func17, Tryd.ntmps17
  go_wp2_with fail
  first | go_region_with (go_at_call 31; refine (HVH.out _ ?_).mono ?_; (exact (HR.out.alloc _).drew); rintro e w1 ⟨rfl, hb1⟩) | done
  all_goals
    go_wp2
    go_ret
    exact ⟨rfl, fun q => absurd q (by simp), ((Keep.refl Pr w).alloc HL.out _).drew.trans (Keep.below hb1 (fun k hk => by have := HL.out k hk; simp; omega))⟩

theorem seven_open {g bx : Nat} {t : TR} {a b la lb : Int} {W : World} (h : SevenAt g bx t a b la lb W) :
    W.cell? ⟨bx, 0, none⟩ = some (.int .i64 t.kind) ∧ W.cell? ⟨bx, 1, none⟩ = some (.int .i64 t.num) ∧ W.cell? ⟨bx, 2, none⟩ = some (.string (S t.str)) ∧
    W.cell? ⟨bx, 3, none⟩ = some (.int .i64 a) ∧ W.cell? ⟨bx, 4, none⟩ = some (.int .i64 b) ∧ W.cell? ⟨g, 2, none⟩ = some (.int .i64 la) ∧ W.cell? ⟨g, 3, none⟩ = some (.int .i64 lb) := h

set_option maxRecDepth 100000 in
set_option maxHeartbeats 3200000 in
theorem add_bad2 (w : World) (Pr : Nat → Prop) (g : Nat) (s : LSt) (t : TR) (a b : Int) (h : BSt w Pr g s) (hr : RangeVar w) (hs : t.str.length ≤ 140737488355328)
    (hV : valT t = true) (hA : isAft (a, b) s.last = false) : Calls Tryd.prog 17 #[.pointer (some ⟨g, 0, none⟩), tkV t a b] w (AddPost w Pr g (1, s)) := by
  have HL := Lib.hid h.lt
  have HB0 := Lib.hid (h.more (.cells #[.int .i64 t.kind, .int .i64 t.num, .string (S t.str), .int .i64 a, .int .i64 b] 37))
  have HR := Lib.hid hr
  obtain ⟨out, cols, ⟨la, lb⟩, it, li⟩ := s
  obtain ⟨vt, vc, hBA⟩ := HB0.out
  have k2 : (w.alloc (.cells #[.int .i64 t.kind, .int .i64 t.num, .string (S t.str), .int .i64 a, .int .i64 b] 37)).cell? ⟨g, 2, none⟩ = some (.int .i64 la) := hBA.blk.cell 2
  have k3 : (w.alloc (.cells #[.int .i64 t.kind, .int .i64 t.num, .string (S t.str), .int .i64 a, .int .i64 b] 37)).cell? ⟨g, 3, none⟩ = some (.int .i64 lb) := hBA.blk.cell 3
  have hgl : g < w.heap.size := by obtain ⟨_, _, q⟩ := h; exact q.blk.lt
  have HVH := Lib.hid (fun W => valid_held t a b la lb hs g w.heap.size W)
  have HAH := Lib.hid (fun W => after_held t a b la lb g w.heap.size W)
  rw [hV] at HVH
  rw [hA] at HAH
  clear h hr hs hV hA hBA
  go_enter Tryd.func17, Tryd.ntmps17
  go_wp2_with fail
  go_region_held3 (fun W => W.cell? ⟨w.heap.size, 0, none⟩ = some (.int .i64 t.kind) ∧ W.cell? ⟨w.heap.size, 1, none⟩ = some (.int .i64 t.num) ∧ W.cell? ⟨w.heap.size, 2, none⟩ = some (.string (S t.str)) ∧
    W.cell? ⟨w.heap.size, 3, none⟩ = some (.int .i64 a) ∧ W.cell? ⟨w.heap.size, 4, none⟩ = some (.int .i64 b) ∧ W.cell? ⟨g, 2, none⟩ = some (.int .i64 la) ∧ W.cell? ⟨g, 3, none⟩ = some (.int .i64 lb)) (first | go_keep | exact hsev1 | exact hsev2)
    (first | (go_at_call 31; refine (HVH.out _ ?_ ?_ ?_ ?_).mono ?_; (exact (HR.out.alloc _).drew); (simp; omega); (simp); (refine ⟨?_, ?_, ?_, ?_, ?_, ?_, ?_⟩ <;> simp [*]); rintro e w1 ⟨rfl, hsev1, hb1⟩) | (go_at_call 32; refine (HAH.out _ ?_ ?_ ?_).mono ?_; (have := hb1.size; simp at this; omega); (have := hb1.size; simp at this; omega); (exact hsev1); rintro e w2 ⟨rfl, hsev2, hb2⟩))
  go_wp2
  go_ret
  exact ⟨rfl, fun q => absurd q (by simp), (((Keep.refl Pr w).alloc HL.out _).drew.trans (Keep.below hb1 (fun k hk => by have := HL.out k hk; simp; omega))).trans (Keep.below hb2 (fun k hk => by have := HL.out k hk; have := hb1.size; simp at this; omega))⟩

end Go.Proofs.YtoogbgmneabfnaaDoor
