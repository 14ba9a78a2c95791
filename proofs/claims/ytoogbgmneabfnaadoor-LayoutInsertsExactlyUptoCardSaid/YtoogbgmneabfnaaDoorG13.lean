/- The program's proceed within a line, answer, await and unanswered. Condition: fewer than a thousand million tokens and blocks. The lexer's Valid, and the builder's add. Conditions: strings of at most 2^47 bytes, fewer than a thousand million tokens; strconv.ErrRange holds an interface value. -/
import Derived.Test.YtoogbgmneabfnaaDoorG10
import Derived.Test.YtoogbgmneabfnaaDoorG8
namespace Go.Proofs.YtoogbgmneabfnaaDoor
open Go.RowKit M

set_option maxRecDepth 100000 in
set_option maxHeartbeats 3200000 in
theorem proceed_same (w : World) (Pr : Nat → Prop) (g : Nat) (s : LSt) (t : TR) (a b : Int) (h : BSt w Pr g s) (hl : s.cols ≠ []) (hn : s.out.length + s.cols.length ≤ 999999998) :
    Calls Tryd.prog 35 #[.pointer (some ⟨g, 0, none⟩), tkV t a b, .bool false] w
      (BPost w Pr g { s with out := (procL s.out s.cols (t, (a, b)) false).1, cols := (procL s.out s.cols (t, (a, b)) false).2 }) := by
  have HB0 := Lib.hid (h.more (.cells #[.int .i64 t.kind, .int .i64 t.num, .string (S t.str), .int .i64 a, .int .i64 b] 37))
  have HL := Lib.hid h.lt
  have HCL := Lib.hid (fun W => closer_any W t a b)
  have hP : Hid (procL s.out s.cols (t, (a, b)) false = if closB t = true then (if 1 < s.cols.length then (s.out ++ [mkT 7 (a, b)], s.cols.tail) else (s.out, s.cols)) else (s.out, s.cols)) := by
    unfold Hid procL procE popS; simp
  generalize procL s.out s.cols (t, (a, b)) false = Q at *
  generalize closB t = cl at *
  obtain ⟨out, cols, la, it, li⟩ := s
  cases cols with
  | nil => exact absurd rfl hl
  | cons x r =>
    simp only at hP hn
    obtain ⟨vt, vc, hBA⟩ := HB0.out
    obtain ⟨gc, cap, rfl, _, _, _⟩ := hBA.cform rfl
    have k0 : (w.alloc (.cells #[.int .i64 t.kind, .int .i64 t.num, .string (S t.str), .int .i64 a, .int .i64 b] 37)).cell? ⟨g, 1, none⟩ = some (.slice (some ⟨gc, 0, none⟩) (r.length + 1 : Nat) cap) := hBA.blk.cell 1
    rw [List.length_cons] at hn hP
    clear h hl hBA
    go_enter Tryd.func35, Tryd.ntmps35
    go_wp2_with fail
    clear k0
    go_loopw [] (fun wr => Hid (∃ n, wr = (w.alloc (.cells #[.int .i64 t.kind, .int .i64 t.num, .string (S t.str), .int .i64 a, .int .i64 b] 37)).drewN n)) (fun wr => 0)
    case atStart => exact ⟨0, rfl⟩
    case round =>
      obtain ⟨n, hw⟩ := hrel.out
      subst hw
      clear hrel
      go_wp2_with fail
      go_quiet (fail)
      go_wp2_with fail
      refine (HCL.out _).mono ?_
      rintro e w2 ⟨rfl, hb2⟩
      have HB2 := Lib.hid ((HB0.out.drewN _).below hb2)
      have HK2 := Lib.hid (((Keep.refl (orOne Pr w.heap.size) _).drewN _).trans (Keep.below hb2 (HB0.out.drewN _).lt))
      have k3 : w2.cell? ⟨w.heap.size, 3, none⟩ = some (.int .i64 a) := box_cell HK2.out 3
      have k4 : w2.cell? ⟨w.heap.size, 4, none⟩ = some (.int .i64 b) := box_cell HK2.out 4
      obtain ⟨vt2, vc2, hBA⟩ := HB2.out
      obtain ⟨gc2, cap2, rfl, _, _, _⟩ := hBA.cform rfl
      have k6 : w2.cell? ⟨g, 1, none⟩ = some (.slice (some ⟨gc2, 0, none⟩) (r.length + 1 : Nat) cap2) := hBA.blk.cell 1
      clear hb2 hBA
      cases cl
      · rw [if_neg (by decide)] at hP
        go_wp2_with fail
        go_quiet (fail)
        go_wp2
        go_end0
        rw [hP.out]
        exact ⟨rfl, (HB2.out.drewN _).mono (fun k hk => .inl hk), keep_box HL.out (HK2.out.drewN _)⟩
      · rw [if_pos rfl] at hP
        by_cases h1 : 1 < r.length + 1
        · rw [if_pos h1] at hP
          go_wp2_with fail
          refine (close_any _ _ g _ a b x r HB2.out rfl (by simp; omega) (by omega)).mono ?_
          rintro e w3 ⟨rfl, hB3, hK3⟩
          have HB3 := Lib.hid hB3
          have HK3 := Lib.hid (HK2.out.trans hK3)
          clear hB3 hK3
          go_wp2
          go_end0
          rw [hP.out]
          exact ⟨rfl, HB3.out.mono (fun k hk => .inl hk), keep_box HL.out HK3.out⟩
        · rw [if_neg h1] at hP
          go_wp2
          go_end0
          rw [hP.out]
          exact ⟨rfl, HB2.out.mono (fun k hk => .inl hk), keep_box HL.out HK2.out⟩

/-- only the builder's own block has turned -/
theorem BAt.turn {w w' : World} {Pr : Nat → Prop} {g : Nat} {s : LSt} {vt vc : Value} (h : BAt w Pr g s vt vc) (hg : w.grownBy w' (some g)) (la it li : Int × Int)
    (hb : Blk w' g 47 (bCells vt vc la it li)) : BSt w' Pr g { s with last := la, item := it, line := li } ∧ Keep Pr w w' :=
  ⟨⟨vt, vc, hb, h.rt.kept hg (by
      cases ho : vt.ownBlock with
      | none => exact .inl rfl
      | some k => exact .inr (fun q => h.gt (by rw [ho, q]))), h.rc.kept hg (by
      cases ho : vc.ownBlock with
      | none => exact .inl rfl
      | some k => exact .inr (fun q => h.gc (by rw [ho, q]))), h.ng, h.nt, h.nc, fun k hk => Nat.lt_of_lt_of_le (h.lt k hk) hg.size⟩,
    (Keep.refl Pr w).grown hg h.lt (fun k hk => by injection hk with hk; rw [← hk]; exact h.ng)⟩

/-- the keyword that the next token answers -/
def ansL (s : LSt) (st : Bool) : Bool × LSt :=
  if s.item ≠ (0, 0) then (true, { s with item := (0, 0) }) else if st = true ∧ s.line ≠ (0, 0) then (true, { s with line := (0, 0) }) else (false, s)
def AnsPost (w : World) (Pr : Nat → Prop) (g : Nat) (r : Bool × LSt) (e : Ending) (w' : World) : Prop := e = .returned (.bool r.1) ∧ BSt w' Pr g r.2 ∧ Keep Pr w w'
theorem pair_zero (p : Int × Int) : (p = (0, 0)) ∨ (p ≠ (0, 0) ∧ ((p.1 == 0) = false ∨ ((p.1 == 0) = true ∧ (p.2 == 0) = false))) := by
  obtain ⟨a, b⟩ := p
  by_cases h1 : a = 0
  · by_cases h2 : b = 0
    · left; rw [h1, h2]
    · right; exact ⟨by intro q; injection q with q1 q2; exact h2 q2, .inr ⟨beq_iff_eq.2 h1, beq_eq_false_iff_ne.2 h2⟩⟩
  · right; exact ⟨by intro q; injection q with q1 q2; exact h1 q1, .inl (beq_eq_false_iff_ne.2 h1)⟩

set_option maxRecDepth 100000 in
set_option maxHeartbeats 3200000 in
theorem answer_any (w : World) (Pr : Nat → Prop) (g : Nat) (s : LSt) (st : Bool) (h : BSt w Pr g s) :
    Calls Tryd.prog 33 #[.pointer (some ⟨g, 0, none⟩), .bool st] w (AnsPost w Pr g (ansL s st)) := by
  obtain ⟨vt, vc, hB⟩ := h
  have hR : Hid (ansL s st = if s.item ≠ (0, 0) then (true, { s with item := (0, 0) }) else if st = true ∧ s.line ≠ (0, 0) then (true, { s with line := (0, 0) }) else (false, s)) := rfl
  generalize ansL s st = R at *
  have k4 : w.cell? ⟨g, 4, none⟩ = some (.int .i64 s.item.1) := hB.blk.cell 4
  have k5 : w.cell? ⟨g, 5, none⟩ = some (.int .i64 s.item.2) := hB.blk.cell 5
  have k6 : w.cell? ⟨g, 6, none⟩ = some (.int .i64 s.line.1) := hB.blk.cell 6
  have k7 : w.cell? ⟨g, 7, none⟩ = some (.int .i64 s.line.2) := hB.blk.cell 7
  have f : ∀ i, w.frozen? ⟨g, i, none⟩ = false := fun i => hB.blk.frozen i
  have HB := Lib.hid hB
  clear hB
  have hitem := (HB.out.turn (only_set (only_set (only_refl w (some g)) _ _) _ _) s.last (0, 0) s.line ((HB.out.blk.set_ 4 (.int .i64 0)).set_ 5 (.int .i64 0)))
  have hline := (HB.out.turn (only_set (only_set (only_refl w (some g)) _ _) _ _) s.last s.item (0, 0) ((HB.out.blk.set_ 6 (.int .i64 0)).set_ 7 (.int .i64 0)))
  have HIT := Lib.hid hitem
  have HLI := Lib.hid hline
  clear hitem hline
  rcases pair_zero s.item with h1 | ⟨h1, h2⟩
  · rw [if_neg (fun q => q h1)] at hR
    rw [h1] at k4 k5
    simp only at k4 k5
    have H1 := Lib.hid h1
    clear h1
    cases st
    · rw [if_neg (fun q => absurd q.1 (by decide))] at hR
      go_enter Tryd.func33, Tryd.ntmps33
      go_wp2
      go_ret
      rw [hR.out]
      exact ⟨rfl, ⟨vt, vc, HB.out⟩, Keep.refl _ _⟩
    · rcases pair_zero s.line with h3 | ⟨h3, h4⟩
      · rw [if_neg (fun q => q.2 h3)] at hR
        rw [h3] at k6 k7
        simp only at k6 k7
        have H3 := Lib.hid h3
        clear h3
        go_enter Tryd.func33, Tryd.ntmps33
        go_wp2
        go_ret
        rw [hR.out]
        exact ⟨rfl, ⟨vt, vc, HB.out⟩, Keep.refl _ _⟩
      · rw [if_pos ⟨rfl, h3⟩] at hR
        clear h3
        rcases h4 with h4 | ⟨h4, h5⟩
        all_goals
          go_enter Tryd.func33, Tryd.ntmps33
          go_wp2
          go_ret
          rw [hR.out]
          exact ⟨rfl, HLI.out.1, HLI.out.2⟩
  · rw [if_pos h1] at hR
    clear h1
    rcases h2 with h2 | ⟨h2, h3⟩
    all_goals
      go_enter Tryd.func33, Tryd.ntmps33
      go_wp2
      go_ret
      rw [hR.out]
      exact ⟨rfl, HIT.out.1, HIT.out.2⟩

set_option maxRecDepth 100000 in
set_option maxHeartbeats 3200000 in
theorem await_any (w : World) (Pr : Nat → Prop) (g : Nat) (s : LSt) (t : TR) (a b : Int) (h : BSt w Pr g s) :
    Calls Tryd.prog 36 #[.pointer (some ⟨g, 0, none⟩), tkV t a b] w
      (BPost w Pr g { s with item := if itemK t = true then (a, b) else s.item, line := if lineK t = true then (a, b) else s.line }) := by
  obtain ⟨kd, nu, st, er⟩ := t
  have HL := Lib.hid h.lt
  have HB0 := Lib.hid (h.more (.cells #[.int .i64 kd, .int .i64 nu, .string (S st), .int .i64 a, .int .i64 b] 37))
  clear h
  obtain ⟨vt, vc, hBA⟩ := HB0.out
  have HBA := Lib.hid hBA
  have f : ∀ i, (w.alloc (.cells #[.int .i64 kd, .int .i64 nu, .string (S st), .int .i64 a, .int .i64 b] 37)).frozen? ⟨g, i, none⟩ = false := fun i => hBA.blk.frozen i
  have k4 : (w.alloc (.cells #[.int .i64 kd, .int .i64 nu, .string (S st), .int .i64 a, .int .i64 b] 37)).cell? ⟨g, 4, none⟩ = some (.int .i64 s.item.1) := hBA.blk.cell 4
  have k5 : (w.alloc (.cells #[.int .i64 kd, .int .i64 nu, .string (S st), .int .i64 a, .int .i64 b] 37)).cell? ⟨g, 5, none⟩ = some (.int .i64 s.item.2) := hBA.blk.cell 5
  have k6 : (w.alloc (.cells #[.int .i64 kd, .int .i64 nu, .string (S st), .int .i64 a, .int .i64 b] 37)).cell? ⟨g, 6, none⟩ = some (.int .i64 s.line.1) := hBA.blk.cell 6
  have k7 : (w.alloc (.cells #[.int .i64 kd, .int .i64 nu, .string (S st), .int .i64 a, .int .i64 b] 37)).cell? ⟨g, 7, none⟩ = some (.int .i64 s.line.2) := hBA.blk.cell 7
  have HIT := Lib.hid (hBA.turn (only_set (only_set (only_refl _ (some g)) _ _) _ _) s.last (a, b) s.line ((hBA.blk.set_ 4 (.int .i64 a)).set_ 5 (.int .i64 b)))
  have HLI := Lib.hid (hBA.turn (only_set (only_set (only_refl _ (some g)) _ _) _ _) s.last s.item (a, b) ((hBA.blk.set_ 6 (.int .i64 a)).set_ 7 (.int .i64 b)))
  have hK0 : Hid (Keep (orOne Pr w.heap.size) (w.alloc (.cells #[.int .i64 kd, .int .i64 nu, .string (S st), .int .i64 a, .int .i64 b] 37)) (w.alloc (.cells #[.int .i64 kd, .int .i64 nu, .string (S st), .int .i64 a, .int .i64 b] 37))) := Keep.refl _ _
  clear hBA
  have e1 := beqEq st kwLet
  have e2 := beqEq st kwExports
  have e3 := beqEq st kwModule
  have e4 := beqEq st kwTimed
  have n3 : st = kwModule → st ≠ kwLet ∧ st ≠ kwExports := fun q => by rw [q]; decide
  have n4 : st = kwTimed → st ≠ kwLet ∧ st ≠ kwExports := fun q => by rw [q]; decide
  have n1 : st = kwLet → st ≠ kwModule ∧ st ≠ kwTimed := fun q => by rw [q]; decide
  have n2 : st = kwExports → st ≠ kwModule ∧ st ≠ kwTimed := fun q => by rw [q]; decide
  show Calls _ _ #[_, .agg #[.int .i64 kd, .int .i64 nu, .string (S st), .int .i64 a, .int .i64 b]] _ (BPost w Pr g { s with item := if (decide (kd = 3) && (decide (st = kwLet) || decide (st = kwExports))) = true then (a, b) else s.item, line := if (decide (kd = 3) && (decide (st = kwModule) || decide (st = kwTimed))) = true then (a, b) else s.line })
  by_cases hk : kd = 3
  · have g0 : (kd != 3) = false := by simp [hk]
    rw [decide_eq_true hk]
    clear hk
    by_cases c1 : st = kwLet
    · have d1 : (st == [108, 101, 116]) = true := e1.trans (decide_eq_true c1)
      rw [decide_eq_true c1, decide_eq_false (n1 c1).1, decide_eq_false (n1 c1).2]
      clear e1 e2 e3 e4 n1 n2 n3 n4 c1
      go_enter Tryd.func36, Tryd.ntmps36
      go_wp2
      go_end0
      exact ⟨rfl, HIT.out.1.mono (fun k hk => .inl hk), keep_box HL.out (hK0.out.trans HIT.out.2)⟩
    · by_cases c2 : st = kwExports
      · have d1 : (st == [108, 101, 116]) = false := e1.trans (decide_eq_false c1)
        have d2 : (st == [101, 120, 112, 111, 114, 116, 115]) = true := e2.trans (decide_eq_true c2)
        rw [decide_eq_false c1, decide_eq_true c2, decide_eq_false (n2 c2).1, decide_eq_false (n2 c2).2]
        clear e1 e2 e3 e4 n1 n2 n3 n4 c1 c2
        go_enter Tryd.func36, Tryd.ntmps36
        go_wp2
        go_end0
        exact ⟨rfl, HIT.out.1.mono (fun k hk => .inl hk), keep_box HL.out (hK0.out.trans HIT.out.2)⟩
      · have d1 : (st == [108, 101, 116]) = false := e1.trans (decide_eq_false c1)
        have d2 : (st == [101, 120, 112, 111, 114, 116, 115]) = false := e2.trans (decide_eq_false c2)
        rw [decide_eq_false c1, decide_eq_false c2]
        by_cases c3 : st = kwModule
        · have d3 : (st == [109, 111, 100, 117, 108, 101]) = true := e3.trans (decide_eq_true c3)
          rw [decide_eq_true c3]
          clear e1 e2 e3 e4 n1 n2 n3 n4 c1 c2 c3
          go_enter Tryd.func36, Tryd.ntmps36
          go_wp2
          go_end0
          exact ⟨rfl, HLI.out.1.mono (fun k hk => .inl hk), keep_box HL.out (hK0.out.trans HLI.out.2)⟩
        · have d3 : (st == [109, 111, 100, 117, 108, 101]) = false := e3.trans (decide_eq_false c3)
          rw [decide_eq_false c3]
          by_cases c4 : st = kwTimed
          · have d4 : (st == [84, 105, 109, 101, 100]) = true := e4.trans (decide_eq_true c4)
            rw [decide_eq_true c4]
            clear e1 e2 e3 e4 n1 n2 n3 n4 c1 c2 c3 c4
            go_enter Tryd.func36, Tryd.ntmps36
            go_wp2
            go_end0
            exact ⟨rfl, HLI.out.1.mono (fun k hk => .inl hk), keep_box HL.out (hK0.out.trans HLI.out.2)⟩
          · have d4 : (st == [84, 105, 109, 101, 100]) = false := e4.trans (decide_eq_false c4)
            rw [decide_eq_false c4]
            clear e1 e2 e3 e4 n1 n2 n3 n4 c1 c2 c3 c4
            go_enter Tryd.func36, Tryd.ntmps36
            go_wp2
            go_end0
            exact ⟨rfl, HB0.out.mono (fun k hk => .inl hk), keep_box HL.out hK0.out⟩
  · have g0 : (kd != 3) = true := by simp [hk]
    rw [decide_eq_false hk]
    clear hk e1 e2 e3 e4 n1 n2 n3 n4
    go_enter Tryd.func36, Tryd.ntmps36
    go_wp2
    go_end0
    exact ⟨rfl, HB0.out.mono (fun k hk => .inl hk), keep_box HL.out hK0.out⟩

end Go.Proofs.YtoogbgmneabfnaaDoor

namespace Go.Proofs.YtoogbgmneabfnaaDoor
open Go.RowKit M

theorem item_all (s : ByteArray) (hm : s.size ≤ 140737488355328) (w : World) (hr : RangeVar w) :
    Calls Tryd.prog 51 #[.string s] w fun e w' => e = .returned (itemV3 (itemR s.data.toList) (itemN s.data.toList)) ∧ Below w.heap.size w w' := by
  by_cases h0 : s.size = 0
  · obtain rfl := size_zero s h0
    exact item_none _ rfl rfl w
  · exact item_any s hm (by omega) w hr

theorem valT_int (num : Int) (st : Bs) (er : Int) : valT ⟨2, num, st, er⟩ = (decide (0 ≤ num) && decide (st = [])) := rfl
theorem valT_str {k : Int} (hk : k = 1 ∨ k = 3 ∨ k = 4) (num : Int) (st : Bs) (er : Int) : valT ⟨k, num, st, er⟩ =
    (decide ((itemR st).err = 0) && (decide ((itemR st).kind = k) && (decide ((itemR st).num = num) && decide ((itemR st).str = st)))) := by
  unfold valT
  rw [if_neg (by simp only; omega), if_pos hk]
theorem valT_else {k : Int} (h2 : k ≠ 2) (h : ¬ (k = 1 ∨ k = 3 ∨ k = 4)) (num : Int) (st : Bs) (er : Int) : valT ⟨k, num, st, er⟩ = false := by
  unfold valT
  rw [if_neg h2, if_neg h]

set_option maxRecDepth 100000 in
set_option maxHeartbeats 3200000 in
theorem valid_str (k num : Int) (st : Bs) (er a b : Int) (hk : k = 1 ∨ k = 3 ∨ k = 4) (hs : st.length ≤ 140737488355328) (w : World) (hr : RangeVar w) :
    Calls Tryd.prog 31 #[.agg #[.int .i64 k, .int .i64 num, .string (S st), .int .i64 a, .int .i64 b]] w fun e w' => e = .returned (.bool (valT ⟨k, num, st, er⟩)) ∧ Below w.heap.size w w' := by
  rw [valT_str hk]
  have HI := Lib.hid (fun W h => item_all (S st) hs W h)
  rw [S_toList] at HI
  have HR := Lib.hid hr
  have hk2 : (k == 2) = false := beq_eq_false_iff_ne.2 (by omega)
  have hk3 : (k == 1) = true ∨ ((k == 1) = false ∧ (k == 3) = true) ∨ ((k == 1) = false ∧ (k == 3) = false ∧ (k == 4) = true) := by
    rcases hk with rfl | rfl | rfl
    · left; rfl
    · right; left; exact ⟨rfl, rfl⟩
    · right; right; exact ⟨rfl, rfl, rfl⟩
  generalize itemR st = T at *
  generalize itemN st = N at *
  obtain ⟨K, M, Y, E⟩ := T
  unfold itemV3 at HI
  simp only at HI ⊢
  clear hr hs hk
  have hE : (E ≠ 0) ∨ (E = 0 ∧ K ≠ k) ∨ (E = 0 ∧ K = k ∧ M ≠ num) ∨ (E = 0 ∧ K = k ∧ M = num) := by
    by_cases h1 : E = 0
    · by_cases h2 : K = k
      · by_cases h3 : M = num
        · exact .inr (.inr (.inr ⟨h1, h2, h3⟩))
        · exact .inr (.inr (.inl ⟨h1, h2, h3⟩))
      · exact .inr (.inl ⟨h1, h2⟩)
    · exact .inl h1
  rcases hE with h1 | ⟨h1, h2⟩ | ⟨h1, h2, h3⟩ | ⟨h1, h2, h3⟩
  · have hV : Hid ((decide (E = 0) && (decide (K = k) && (decide (M = num) && decide (Y = st)))) = false) := by unfold Hid; rw [decide_eq_false h1]; rfl
    generalize (decide (E = 0) && (decide (K = k) && (decide (M = num) && decide (Y = st)))) = V at *
    have g1 : (E == 0) = false := beq_eq_false_iff_ne.2 h1
    clear h1
    rcases hk3 with hk3 | ⟨hk3, hk4⟩ | ⟨hk3, hk4, hk5⟩
    all_goals
      go_enter Tryd.func31, Tryd.ntmps31
      go_wp2_with fail
      refine (HI.out _ (HR.out.alloc _)).mono ?_
      rintro e w1 ⟨rfl, hb1⟩
      obtain ⟨hc, hf⟩ := bcell_alloc hb1
      have hz : w.heap.size + 1 ≤ w1.heap.size := by have := hb1.size; simp at this; omega
      go_wp2
      go_ret
      exact ⟨ret_bool hV.out.symm, (((Below.refl _ _).alloc (Nat.le_refl _) _).trans (hb1.mono (by simp))).alloc (by omega) _⟩
  · have hV : Hid ((decide (E = 0) && (decide (K = k) && (decide (M = num) && decide (Y = st)))) = false) := by unfold Hid; rw [decide_eq_false h2]; simp
    generalize (decide (E = 0) && (decide (K = k) && (decide (M = num) && decide (Y = st)))) = V at *
    have g1 : (E == 0) = true := beq_iff_eq.2 h1
    have g2 : (K == k) = false := beq_eq_false_iff_ne.2 h2
    clear h1 h2
    rcases hk3 with hk3 | ⟨hk3, hk4⟩ | ⟨hk3, hk4, hk5⟩
    all_goals
      go_enter Tryd.func31, Tryd.ntmps31
      go_wp2_with fail
      refine (HI.out _ (HR.out.alloc _)).mono ?_
      rintro e w1 ⟨rfl, hb1⟩
      obtain ⟨hc, hf⟩ := bcell_alloc hb1
      have hz : w.heap.size + 1 ≤ w1.heap.size := by have := hb1.size; simp at this; omega
      go_wp2
      go_ret
      exact ⟨ret_bool hV.out.symm, (((Below.refl _ _).alloc (Nat.le_refl _) _).trans (hb1.mono (by simp))).alloc (by omega) _⟩
  · have hV : Hid ((decide (E = 0) && (decide (K = k) && (decide (M = num) && decide (Y = st)))) = false) := by unfold Hid; rw [decide_eq_false h3]; simp
    generalize (decide (E = 0) && (decide (K = k) && (decide (M = num) && decide (Y = st)))) = V at *
    have g1 : (E == 0) = true := beq_iff_eq.2 h1
    have g2 : (K == k) = true := beq_iff_eq.2 h2
    have g3 : (M == num) = false := beq_eq_false_iff_ne.2 h3
    clear h1 h2 h3
    rcases hk3 with hk3 | ⟨hk3, hk4⟩ | ⟨hk3, hk4, hk5⟩
    all_goals
      go_enter Tryd.func31, Tryd.ntmps31
      go_wp2_with fail
      refine (HI.out _ (HR.out.alloc _)).mono ?_
      rintro e w1 ⟨rfl, hb1⟩
      obtain ⟨hc, hf⟩ := bcell_alloc hb1
      have hz : w.heap.size + 1 ≤ w1.heap.size := by have := hb1.size; simp at this; omega
      go_wp2
      go_ret
      exact ⟨ret_bool hV.out.symm, (((Below.refl _ _).alloc (Nat.le_refl _) _).trans (hb1.mono (by simp))).alloc (by omega) _⟩
  · have hV : Hid ((decide (E = 0) && (decide (K = k) && (decide (M = num) && decide (Y = st)))) = (Y == st)) := by
      unfold Hid; rw [decide_eq_true h1, decide_eq_true h2, decide_eq_true h3, Bool.true_and, Bool.true_and, Bool.true_and, beqEq]
    generalize (decide (E = 0) && (decide (K = k) && (decide (M = num) && decide (Y = st)))) = V at *
    have g1 : (E == 0) = true := beq_iff_eq.2 h1
    have g2 : (K == k) = true := beq_iff_eq.2 h2
    have g3 : (M == num) = true := beq_iff_eq.2 h3
    clear h1 h2 h3
    cases dY : (Y == st)
    all_goals
      rw [dY] at hV
      rcases hk3 with hk3 | ⟨hk3, hk4⟩ | ⟨hk3, hk4, hk5⟩
      all_goals
        go_enter Tryd.func31, Tryd.ntmps31
        go_wp2_with fail
        refine (HI.out _ (HR.out.alloc _)).mono ?_
        rintro e w1 ⟨rfl, hb1⟩
        obtain ⟨hc, hf⟩ := bcell_alloc hb1
        have hz : w.heap.size + 1 ≤ w1.heap.size := by have := hb1.size; simp at this; omega
        go_wp2
        go_ret
        exact ⟨ret_bool hV.out.symm, (((Below.refl _ _).alloc (Nat.le_refl _) _).trans (hb1.mono (by simp))).alloc (by omega) _⟩

set_option maxRecDepth 100000 in
set_option maxHeartbeats 3200000 in
theorem valid_any (t : TR) (a b : Int) (hs : t.str.length ≤ 140737488355328) (w : World) (hr : RangeVar w) :
    Calls Tryd.prog 31 #[tkV t a b] w fun e w' => e = .returned (.bool (valT t)) ∧ Below w.heap.size w w' := by
  obtain ⟨k, num, st, er⟩ := t
  by_cases hk : k = 1 ∨ k = 3 ∨ k = 4
  · exact valid_str k num st er a b hk hs w hr
  · show Calls _ _ #[.agg #[.int .i64 k, .int .i64 num, .string (S st), .int .i64 a, .int .i64 b]] _ _
    by_cases h2 : k = 2
    · have hV : Hid (valT ⟨k, num, st, er⟩ = (decide (0 ≤ num) && (st == []))) := by unfold Hid; rw [h2, valT_int, beqEq]
      generalize valT ⟨k, num, st, er⟩ = V at *
      have g1 : (k == 2) = true := beq_iff_eq.2 h2
      have hm : (0 ≤ num ∧ decide (0 ≤ num) = true) ∨ (num < 0 ∧ decide (0 ≤ num) = false) := by
        by_cases h : 0 ≤ num
        · exact .inl ⟨h, decide_eq_true h⟩
        · exact .inr ⟨by omega, decide_eq_false h⟩
      clear hk h2 hr hs
      rcases hm with ⟨h3, h4⟩ | ⟨h3, h4⟩
      · rw [h4, Bool.true_and] at hV
        cases dY : (st == [])
        · have d2 : ¬ st = [] := by intro q; rw [q] at dY; exact absurd dY (by decide)
          have d3 : st.isEmpty = false := by cases st with | nil => exact absurd rfl d2 | cons => rfl
          rw [dY] at hV
          go_enter Tryd.func31, Tryd.ntmps31
          go_wp2
          go_ret
          exact ⟨ret_bool hV.out.symm, (Below.refl _ _).alloc (Nat.le_refl _) _⟩
        · have d2 : st = [] := by simpa using dY
          rw [dY] at hV
          subst d2
          clear dY
          go_enter Tryd.func31, Tryd.ntmps31
          go_wp2
          go_ret
          exact ⟨ret_bool hV.out.symm, (Below.refl _ _).alloc (Nat.le_refl _) _⟩
      · rw [h4, Bool.false_and] at hV
        clear h4
        go_enter Tryd.func31, Tryd.ntmps31
        go_wp2
        go_ret
        exact ⟨ret_bool hV.out.symm, (Below.refl _ _).alloc (Nat.le_refl _) _⟩
    · have hV : Hid (valT ⟨k, num, st, er⟩ = false) := valT_else h2 hk num st er
      generalize valT ⟨k, num, st, er⟩ = V at *
      have g1 : (k == 1) = false := beq_eq_false_iff_ne.2 (fun q => hk (.inl q))
      have g2 : (k == 2) = false := beq_eq_false_iff_ne.2 h2
      have g3 : (k == 3) = false := beq_eq_false_iff_ne.2 (fun q => hk (.inr (.inl q)))
      have g4 : (k == 4) = false := beq_eq_false_iff_ne.2 (fun q => hk (.inr (.inr q)))
      clear hk h2 hr hs
      go_enter Tryd.func31, Tryd.ntmps31
      go_wp2
      go_ret
      exact ⟨ret_bool hV.out.symm, (Below.refl _ _).alloc (Nat.le_refl _) _⟩

end Go.Proofs.YtoogbgmneabfnaaDoor
