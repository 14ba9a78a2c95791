/- The reference's ascending. Condition: values of at most 1048576 bytes, at most 65535 of them, at most 32 levels. -/
-- by tools/gen_rasc.py
import Derived.Test.YtaambeficfiacaaGreatDoorVrE
namespace Go.Proofs.YtaambeficfiacaaGreatDoor
open Go.RowKit VM

def sel (z : Nat) (l : List V) : List V := if z = 2 then evens l else l
theorem evens_cons (b : V) (r : List V) : ∃ X, evens (b :: r) = b :: X := by
  cases r with
  | nil => exact ⟨[], rfl⟩
  | cons y r => exact ⟨evens r, rfl⟩
theorem drop_at {l : List V} {i : Nat} {b : V} (h : l[i]? = some b) : l.drop i = b :: l.drop (i + 1) := by
  have hi : i < l.length := (List.getElem?_eq_some_iff.1 h).1
  rw [List.drop_eq_getElem_cons hi]
  rw [List.getElem?_eq_getElem hi] at h
  rw [Option.some.inj h]
theorem ascL_two (f : V → V → Int) (a b : V) (l : List V) : ascL f (a :: b :: l) = (decide (f a b < 0) && ascL f (b :: l)) := rfl
theorem sel_step {f : V → V → Int} {l : List V} {z j : Nat} {a b : V} (hz : z = 1 ∨ z = 2) (ha : l[j]? = some a) (hb : l[j + z]? = some b) :
    ascL f (sel z (l.drop j)) = (decide (f a b < 0) && ascL f (sel z (l.drop (j + z)))) := by
  rcases hz with rfl | rfl
  · show ascL f (l.drop j) = (decide (f a b < 0) && ascL f (l.drop (j + 1)))
    rw [drop_at ha, drop_at hb]; rfl
  · show ascL f (evens (l.drop j)) = (decide (f a b < 0) && ascL f (evens (l.drop (j + 2))))
    have h1 : j + 1 < l.length := by have := (List.getElem?_eq_some_iff.1 hb).1; omega
    rw [drop_at ha, drop_at (List.getElem?_eq_getElem h1)]
    show ascL f (a :: evens (l.drop (j + 2))) = _
    rw [drop_at hb]
    obtain ⟨X, hX⟩ := evens_cons b (l.drop (j + 2 + 1))
    rw [hX]; rfl
theorem sel_end {f : V → V → Int} {l : List V} {z j : Nat} (hz : z = 1 ∨ z = 2) (h : l.length ≤ j + z) : ascL f (sel z (l.drop j)) = true := by
  have hl : (l.drop j).length ≤ z := by rw [List.length_drop]; omega
  generalize l.drop j = m at *
  rcases hz with rfl | rfl
  · match m, hl with
    | [], _ => rfl
    | [a], _ => rfl
    | a :: b :: m, hl => simp at hl
  · match m, hl with
    | [], _ => rfl
    | [a], _ => rfl
    | [a, b], _ => rfl
    | a :: b :: c :: m, hl => simp at hl

set_option linter.unusedSimpArgs false in
set_option maxRecDepth 100000 in
set_option maxHeartbeats 6400000 in
theorem asc_any1 (d : Nat) (hd : d ≤ 32) (l : List V) (ps : List ByteArray) (A : Option Addr) (n c : Nat) (w : World) (hn : n = ps.length) (hn1 : n ≤ 65535) (hw : l.all (wf d) = true) (hp : ps.map bs = l.map enc) (hs : ∀ s ∈ ps, s.size ≤ 1048576) (hr : InC w A (ps.map Value.string)) :
    Calls Tryz.prog 79 #[.slice A n c, .int .i64 1] w fun e w' => e = .returned (.bool (ascL (ord d) (sel 1 l))) ∧ Below w.heap.size w w' := by
  have HW := Lib.hid hw
  have HP := Lib.hid hp
  have HS := Lib.hid hs
  have HR := hide hr
  have HN := Lib.hid hn
  have l1 : l.length = n := by have := congrArg List.length hp; rw [List.length_map, List.length_map] at this; omega
  clear hw hp hs hr hn
  go_enter Tryz.func79, Tryz.ntmps79
  go_wp2_with fail
  go_loopw [5] (fun iv wr => ∃ j : Nat, iv = .int .i64 ((j + 1 : Nat) : Int) ∧ j ≤ n ∧ Hid (InC wr A (ps.map Value.string)) ∧ Hid (ascL (ord d) (sel 1 l) = ascL (ord d) (sel 1 (l.drop j))) ∧ Hid (Below w.heap.size w wr)) (fun iv _ => n + 1 - (intOf iv).toNat)
  case atStart => exact ⟨0, rfl, by omega, unhide HR, rfl, Below.refl _ _⟩
  case round =>
    obtain ⟨j, rfl, hj, hR, hA, hB⟩ := hrel
    by_cases hil : j + 1 < n
    · obtain ⟨x, hx⟩ : ∃ x, l[j]? = some x := ⟨l[j], List.getElem?_eq_getElem (by omega)⟩
      obtain ⟨y, hy⟩ : ∃ y, l[j + 1]? = some y := ⟨l[j + 1], List.getElem?_eq_getElem (by omega)⟩
      obtain ⟨u, hu⟩ : ∃ u, ps[j]? = some u := ⟨ps[j]'(by have := HN.out; omega), List.getElem?_eq_getElem _⟩
      obtain ⟨v, hv⟩ : ∃ v, ps[j + 1]? = some v := ⟨ps[j + 1]'(by have := HN.out; omega), List.getElem?_eq_getElem _⟩
      have hwx : wf d x = true := List.all_eq_true.1 HW.out x (List.mem_of_getElem? hx)
      have hwy : wf d y = true := List.all_eq_true.1 HW.out y (List.mem_of_getElem? hy)
      have hux : bs u = enc x := by
        have := congrArg (·[j]?) HP.out
        simp only [List.getElem?_map, hu, hx, Option.map_some, Option.some.injEq] at this
        exact this
      have hvy : bs v = enc y := by
        have := congrArg (·[j + 1]?) HP.out
        simp only [List.getElem?_map, hv, hy, Option.map_some, Option.some.injEq] at this
        exact this
      have HC := Lib.hid (fun w => or_any d hd u v x y hwx hwy hux hvy (HS.out u (List.mem_of_getElem? hu)) (HS.out v (List.mem_of_getElem? hv)) w)
      have HST : Hid (ascL (ord d) (sel 1 l) = (decide (ord d x y < 0) && ascL (ord d) (sel 1 (l.drop (j + 1))))) := Lib.hid (by rw [hA.out]; exact sel_step (by decide) hx hy)
      obtain ⟨b5, o5, hA1, hb5, hc5⟩ := at1s hR.out (i := j) (u := .string u) (by rw [List.getElem?_map, hu]; rfl)
      obtain ⟨b6, o6, hA2, hb6, hc6⟩ := at1s hR.out (i := j + 1) (u := .string v) (by rw [List.getElem?_map, hv]; rfl)
      subst hA1
      obtain ⟨rfl, rfl⟩ : b5 = b6 ∧ o5 = o6 := by simpa using hA2
      have hc7 : wr.cell? ⟨b5, o5 + (j + 1), none⟩ = some (.string v) := hc6
      have hjn : j < n := by omega
      have hj1 : (0 : Int) ≤ (j : Int) + 1 := by omega
      have hj2 : (j : Int) + 1 < (n : Int) := by omega
      have hj3 : ((j : Int) + 1).toNat = j + 1 := by omega
      clear hx hy hu hv hwx hwy hux hvy hA hA2 hc6 hb6
      go_wp2_with fail
      have fd0 : Hid (wr.drew.cell? ⟨b5, o5 + j, none⟩ = some (.string u)) := hc5
      have fd1 : Hid (wr.drew.cell? ⟨b5, o5 + (j + 1), none⟩ = some (.string v)) := hc7
      have HBd : Hid (Below w.heap.size w wr.drew) := below_drew hB.out
      have HRd : Hid (InC wr.drew (some ⟨b5, o5, none⟩) (ps.map Value.string)) := hR.out.drew
      have hb5d : b5 < wr.drew.heap.size := hb5
      refine wp_region_noPanic ?_
      refine wp_region_held_drew (S := fun W => W.cell? ⟨b5, o5 + j, none⟩ = some (.string u) ∧ W.cell? ⟨b5, o5 + (j + 1), none⟩ = some (.string v)) (by kernel_rfl) ⟨fd0, fd1⟩ (fun _ => ?_)
      generalize wr.drew = wd at *
      try simp only [Act.put, List.setIfInBounds_toArray, List.set_cons_zero, List.set_cons_succ]
      refine wpAnyH_take (i := 0) (oi := { dst := some 14, op := Op.move (Operand.tmp 0), type := 36, pos := "value.go:77", after := #[], guard := none }) (v := ?_) rfl (by kernel_rfl) (by kernel_rfl) (by kernel_rfl) (fun _ _ _ h => h) (Or.inl ⟨by rfl, ?_⟩) ⟨fd0, fd1⟩ ?_
      rotate_left 1
      · intro w hSw
        obtain ⟨hSw0, hSw1⟩ := hSw
        go_simp
        first
          | done
          | with_reducible rfl
          | rw [if_neg (by omega)]
      try simp only [Act.put, List.setIfInBounds_toArray, List.set_cons_zero, List.set_cons_succ]
      refine wpAnyH_take (i := 1) (oi := { dst := some 15, op := Op.move (Operand.tmp 5), type := 3, pos := "value.go:77", after := #[], guard := none }) (v := ?_) rfl (by kernel_rfl) (by kernel_rfl) (by kernel_rfl) (fun _ _ _ h => h) (Or.inl ⟨by rfl, ?_⟩) ⟨fd0, fd1⟩ ?_
      rotate_left 1
      · intro w hSw
        obtain ⟨hSw0, hSw1⟩ := hSw
        go_simp
        first
          | done
          | with_reducible rfl
          | rw [if_neg (by omega)]
      try simp only [Act.put, List.setIfInBounds_toArray, List.set_cons_zero, List.set_cons_succ]
      refine wpAnyH_take (i := 2) (oi := { dst := some 16, op := Op.move (Operand.tmp 1), type := 3, pos := "value.go:77", after := #[], guard := none }) (v := ?_) rfl (by kernel_rfl) (by kernel_rfl) (by kernel_rfl) (fun _ _ _ h => h) (Or.inl ⟨by rfl, ?_⟩) ⟨fd0, fd1⟩ ?_
      rotate_left 1
      · intro w hSw
        obtain ⟨hSw0, hSw1⟩ := hSw
        go_simp
        first
          | done
          | with_reducible rfl
          | rw [if_neg (by omega)]
      try simp only [Act.put, List.setIfInBounds_toArray, List.set_cons_zero, List.set_cons_succ]
      refine wpAnyH_take (i := 3) (oi := { dst := some 17, op := Op.binOp BinOp.sub 3 (Operand.tmp 15) (Operand.tmp 16) 3, type := 3, pos := "value.go:77", after := #[{ on := 1, ground := Ground.data }, { on := 2, ground := Ground.data }], guard := none }) (v := .int .i64 (j : Int)) rfl (by kernel_rfl) (by kernel_rfl) (by kernel_rfl) (fun _ _ _ h => h) (Or.inl ⟨by rfl, ?_⟩) ⟨fd0, fd1⟩ ?_
      · intro w hSw
        go_simp
        first | done | (congr 1; omega) | exact IntWalk.i64_in _ (by omega)
      try simp only [Act.put, List.setIfInBounds_toArray, List.set_cons_zero, List.set_cons_succ]
      refine wpAnyH_take (i := 4) (oi := { dst := some 18, op := Op.indexAddr 36 (Operand.tmp 14) (Operand.tmp 17), type := 0, pos := "value.go:77", after := #[{ on := 0, ground := Ground.data }, { on := 3, ground := Ground.data }], guard := none }) (v := ?_) rfl (by kernel_rfl) (by kernel_rfl) (by kernel_rfl) (fun _ _ _ h => h) (Or.inl ⟨by rfl, ?_⟩) ⟨fd0, fd1⟩ ?_
      rotate_left 1
      · intro w hSw
        obtain ⟨hSw0, hSw1⟩ := hSw
        go_simp
        first
          | done
          | with_reducible rfl
          | rw [if_neg (by omega)]
      try simp only [Act.put, List.setIfInBounds_toArray, List.set_cons_zero, List.set_cons_succ]
      refine wpAnyH_take (i := 5) (oi := { dst := some 19, op := Op.load 22 (Operand.tmp 18), type := 22, pos := "value.go:77", after := #[{ on := 4, ground := Ground.data }], guard := none }) (v := ?_) rfl (by kernel_rfl) (by kernel_rfl) (by kernel_rfl) (fun _ _ _ h => h) (Or.inl ⟨by rfl, ?_⟩) ⟨fd0, fd1⟩ ?_
      rotate_left 1
      · intro w hSw
        obtain ⟨hSw0, hSw1⟩ := hSw
        go_simp
        first
          | done
          | with_reducible rfl
          | rw [if_neg (by omega)]
      try simp only [Act.put, List.setIfInBounds_toArray, List.set_cons_zero, List.set_cons_succ]
      refine wpAnyH_take (i := 6) (oi := { dst := some 20, op := Op.move (Operand.tmp 0), type := 36, pos := "value.go:77", after := #[], guard := none }) (v := ?_) rfl (by kernel_rfl) (by kernel_rfl) (by kernel_rfl) (fun _ _ _ h => h) (Or.inl ⟨by rfl, ?_⟩) ⟨fd0, fd1⟩ ?_
      rotate_left 1
      · intro w hSw
        obtain ⟨hSw0, hSw1⟩ := hSw
        go_simp
        first
          | done
          | with_reducible rfl
          | rw [if_neg (by omega)]
      try simp only [Act.put, List.setIfInBounds_toArray, List.set_cons_zero, List.set_cons_succ]
      refine wpAnyH_take (i := 7) (oi := { dst := some 21, op := Op.move (Operand.tmp 5), type := 3, pos := "value.go:77", after := #[], guard := none }) (v := ?_) rfl (by kernel_rfl) (by kernel_rfl) (by kernel_rfl) (fun _ _ _ h => h) (Or.inl ⟨by rfl, ?_⟩) ⟨fd0, fd1⟩ ?_
      rotate_left 1
      · intro w hSw
        obtain ⟨hSw0, hSw1⟩ := hSw
        go_simp
        first
          | done
          | with_reducible rfl
          | rw [if_neg (by omega)]
      try simp only [Act.put, List.setIfInBounds_toArray, List.set_cons_zero, List.set_cons_succ]
      refine wpAnyH_take (i := 8) (oi := { dst := some 22, op := Op.indexAddr 36 (Operand.tmp 20) (Operand.tmp 21), type := 0, pos := "value.go:77", after := #[{ on := 6, ground := Ground.data }, { on := 7, ground := Ground.data }], guard := none }) (v := ?_) rfl (by kernel_rfl) (by kernel_rfl) (by kernel_rfl) (fun _ _ _ h => h) (Or.inl ⟨by rfl, ?_⟩) ⟨fd0, fd1⟩ ?_
      rotate_left 1
      · intro w hSw
        obtain ⟨hSw0, hSw1⟩ := hSw
        go_simp
        first
          | done
          | with_reducible rfl
          | rw [if_neg (by omega)]
      try simp only [Act.put, List.setIfInBounds_toArray, List.set_cons_zero, List.set_cons_succ]
      refine wpAnyH_take (i := 9) (oi := { dst := some 23, op := Op.load 22 (Operand.tmp 22), type := 22, pos := "value.go:77", after := #[{ on := 8, ground := Ground.data }], guard := none }) (v := ?_) rfl (by kernel_rfl) (by kernel_rfl) (by kernel_rfl) (fun _ _ _ h => h) (Or.inl ⟨by rfl, ?_⟩) ⟨fd0, fd1⟩ ?_
      rotate_left 1
      · intro w hSw
        obtain ⟨hSw0, hSw1⟩ := hSw
        go_simp
        first
          | done
          | with_reducible rfl
          | rw [if_neg (by omega)]
      try simp only [Act.put, List.setIfInBounds_toArray, List.set_cons_zero, List.set_cons_succ]
      refine wpAnyH_ready (rs := [10]) (by kernel_rfl) (by simp) ?_
      refine AllReadyH.cons (o := { dst := some 24, op := Op.call { callee := Callee.value (Operand.func 57), args := #[Operand.tmp 19, Operand.tmp 23], argTypes := #[22, 22] }, type := 3, pos := "value.go:77", after := #[{ on := 5, ground := Ground.data }, { on := 9, ground := Ground.data }], guard := none }) rfl (fun K hK => ?_) AllReadyH.nil
      go_simp
      go_at_call 57
      refine (HC.out wd).mono ?_
      rintro e w501 ⟨rfl, hb⟩
      have HB9 := hide ((unhide HBd).trans (hb.mono (unhide HBd).size))
      have HR8 := hide ((unhide HRd).below hb)
      have e5 := (hb.cell (p := ⟨b5, o5 + j, none⟩) hb5d).trans (unhide fd0)
      have e6 := (hb.cell (p := ⟨b5, o5 + (j + 1), none⟩) hb5d).trans (unhide fd1)
      clear hb HBd HRd
      try dsimp only
      refine hK.out _ _ ⟨e5, e6⟩ (fun _ => ?_)
      clear hK K
      try simp only [Act.put, List.setIfInBounds_toArray, List.set_cons_zero, List.set_cons_succ]
      refine wpAnyH_take (i := 11) (oi := { dst := some 25, op := Op.binOp BinOp.geq 3 (Operand.tmp 24) (Operand.const (Value.int IntKind.i64 0)) 3, type := 4, pos := "value.go:77", after := #[{ on := 10, ground := Ground.data }], guard := none }) (v := ?_) rfl (by kernel_rfl) (by kernel_rfl) (by kernel_rfl) (fun _ _ _ h => h) (Or.inl ⟨by rfl, ?_⟩) ⟨e5, e6⟩ ?_
      rotate_left 1
      · intro w hSw
        obtain ⟨hSw0, hSw1⟩ := hSw
        go_simp
        first
          | done
          | with_reducible rfl
          | rw [if_neg (by omega)]
      try simp only [Act.put, List.setIfInBounds_toArray, List.set_cons_zero, List.set_cons_succ]
      refine wpAnyH_done (by kernel_rfl) ?_ _
      refine NoPanic.normal ?_
      clear HC hb5d fd0 fd1 hb5 hc5 hc7 hR hB
      by_cases ho : ord d x y < 0
      · have HA2 : Hid (ascL (ord d) (sel 1 l) = ascL (ord d) (sel 1 (l.drop (j + 1)))) := Lib.hid (by rw [HST.out, decide_eq_true ho]; rfl)
        have go1 : decide ((0 : Int) ≤ ord d x y) = false := decide_eq_false (by omega)
        have go2 : ¬ (0 ≤ ord d x y) := by omega
        clear HST
        go_wp2_with fail
        go_roundw
        case rel => exact ⟨j + 1, by go_num, by omega, unhide HR8, HA2.out, unhide HB9⟩
        case measure => simp [intOf]; omega
      · have HA2 : Hid (ascL (ord d) (sel 1 l) = false) := Lib.hid (by rw [HST.out, decide_eq_false ho]; rfl)
        have go1 : decide ((0 : Int) ≤ ord d x y) = true := decide_eq_true (by omega)
        have go2 : 0 ≤ ord d x y := by omega
        clear HST ho
        go_wp2_with fail
        go_ret
        exact ⟨by rw [HA2.out]; rfl, unhide HB9⟩
    · have HA2 : Hid (ascL (ord d) (sel 1 l) = true) := Lib.hid (by rw [hA.out]; exact sel_end (by decide) (by omega))
      have hj2 : ¬ ((j : Int) + 1 < (n : Int)) := by omega
      go_wp2_with fail
      go_ret
      exact ⟨by rw [HA2.out]; rfl, hB.out⟩

set_option linter.unusedSimpArgs false in
set_option maxRecDepth 100000 in
set_option maxHeartbeats 6400000 in
theorem asc_any2 (d : Nat) (hd : d ≤ 32) (l : List V) (ps : List ByteArray) (A : Option Addr) (n c : Nat) (w : World) (hn : n = ps.length) (hn1 : n ≤ 65535) (hw : l.all (wf d) = true) (hp : ps.map bs = l.map enc) (hs : ∀ s ∈ ps, s.size ≤ 1048576) (hr : InC w A (ps.map Value.string)) :
    Calls Tryz.prog 79 #[.slice A n c, .int .i64 2] w fun e w' => e = .returned (.bool (ascL (ord d) (sel 2 l))) ∧ Below w.heap.size w w' := by
  have HW := Lib.hid hw
  have HP := Lib.hid hp
  have HS := Lib.hid hs
  have HR := hide hr
  have HN := Lib.hid hn
  have l1 : l.length = n := by have := congrArg List.length hp; rw [List.length_map, List.length_map] at this; omega
  clear hw hp hs hr hn
  go_enter Tryz.func79, Tryz.ntmps79
  go_wp2_with fail
  go_loopw [5] (fun iv wr => ∃ j : Nat, iv = .int .i64 ((j + 2 : Nat) : Int) ∧ j ≤ n ∧ Hid (InC wr A (ps.map Value.string)) ∧ Hid (ascL (ord d) (sel 2 l) = ascL (ord d) (sel 2 (l.drop j))) ∧ Hid (Below w.heap.size w wr)) (fun iv _ => n + 2 - (intOf iv).toNat)
  case atStart => exact ⟨0, rfl, by omega, unhide HR, rfl, Below.refl _ _⟩
  case round =>
    obtain ⟨j, rfl, hj, hR, hA, hB⟩ := hrel
    by_cases hil : j + 2 < n
    · obtain ⟨x, hx⟩ : ∃ x, l[j]? = some x := ⟨l[j], List.getElem?_eq_getElem (by omega)⟩
      obtain ⟨y, hy⟩ : ∃ y, l[j + 2]? = some y := ⟨l[j + 2], List.getElem?_eq_getElem (by omega)⟩
      obtain ⟨u, hu⟩ : ∃ u, ps[j]? = some u := ⟨ps[j]'(by have := HN.out; omega), List.getElem?_eq_getElem _⟩
      obtain ⟨v, hv⟩ : ∃ v, ps[j + 2]? = some v := ⟨ps[j + 2]'(by have := HN.out; omega), List.getElem?_eq_getElem _⟩
      have hwx : wf d x = true := List.all_eq_true.1 HW.out x (List.mem_of_getElem? hx)
      have hwy : wf d y = true := List.all_eq_true.1 HW.out y (List.mem_of_getElem? hy)
      have hux : bs u = enc x := by
        have := congrArg (·[j]?) HP.out
        simp only [List.getElem?_map, hu, hx, Option.map_some, Option.some.injEq] at this
        exact this
      have hvy : bs v = enc y := by
        have := congrArg (·[j + 2]?) HP.out
        simp only [List.getElem?_map, hv, hy, Option.map_some, Option.some.injEq] at this
        exact this
      have HC := Lib.hid (fun w => or_any d hd u v x y hwx hwy hux hvy (HS.out u (List.mem_of_getElem? hu)) (HS.out v (List.mem_of_getElem? hv)) w)
      have HST : Hid (ascL (ord d) (sel 2 l) = (decide (ord d x y < 0) && ascL (ord d) (sel 2 (l.drop (j + 2))))) := Lib.hid (by rw [hA.out]; exact sel_step (by decide) hx hy)
      obtain ⟨b5, o5, hA1, hb5, hc5⟩ := at1s hR.out (i := j) (u := .string u) (by rw [List.getElem?_map, hu]; rfl)
      obtain ⟨b6, o6, hA2, hb6, hc6⟩ := at1s hR.out (i := j + 2) (u := .string v) (by rw [List.getElem?_map, hv]; rfl)
      subst hA1
      obtain ⟨rfl, rfl⟩ : b5 = b6 ∧ o5 = o6 := by simpa using hA2
      have hc7 : wr.cell? ⟨b5, o5 + (j + 2), none⟩ = some (.string v) := hc6
      have hjn : j < n := by omega
      have hj1 : (0 : Int) ≤ (j : Int) + 2 := by omega
      have hj2 : (j : Int) + 2 < (n : Int) := by omega
      have hj3 : ((j : Int) + 2).toNat = j + 2 := by omega
      clear hx hy hu hv hwx hwy hux hvy hA hA2 hc6 hb6
      go_wp2_with fail
      have fd0 : Hid (wr.drew.cell? ⟨b5, o5 + j, none⟩ = some (.string u)) := hc5
      have fd1 : Hid (wr.drew.cell? ⟨b5, o5 + (j + 2), none⟩ = some (.string v)) := hc7
      have HBd : Hid (Below w.heap.size w wr.drew) := below_drew hB.out
      have HRd : Hid (InC wr.drew (some ⟨b5, o5, none⟩) (ps.map Value.string)) := hR.out.drew
      have hb5d : b5 < wr.drew.heap.size := hb5
      refine wp_region_noPanic ?_
      refine wp_region_held_drew (S := fun W => W.cell? ⟨b5, o5 + j, none⟩ = some (.string u) ∧ W.cell? ⟨b5, o5 + (j + 2), none⟩ = some (.string v)) (by kernel_rfl) ⟨fd0, fd1⟩ (fun _ => ?_)
      generalize wr.drew = wd at *
      try simp only [Act.put, List.setIfInBounds_toArray, List.set_cons_zero, List.set_cons_succ]
      refine wpAnyH_take (i := 0) (oi := { dst := some 14, op := Op.move (Operand.tmp 0), type := 36, pos := "value.go:77", after := #[], guard := none }) (v := ?_) rfl (by kernel_rfl) (by kernel_rfl) (by kernel_rfl) (fun _ _ _ h => h) (Or.inl ⟨by rfl, ?_⟩) ⟨fd0, fd1⟩ ?_
      rotate_left 1
      · intro w hSw
        obtain ⟨hSw0, hSw1⟩ := hSw
        go_simp
        first
          | done
          | with_reducible rfl
          | rw [if_neg (by omega)]
      try simp only [Act.put, List.setIfInBounds_toArray, List.set_cons_zero, List.set_cons_succ]
      refine wpAnyH_take (i := 1) (oi := { dst := some 15, op := Op.move (Operand.tmp 5), type := 3, pos := "value.go:77", after := #[], guard := none }) (v := ?_) rfl (by kernel_rfl) (by kernel_rfl) (by kernel_rfl) (fun _ _ _ h => h) (Or.inl ⟨by rfl, ?_⟩) ⟨fd0, fd1⟩ ?_
      rotate_left 1
      · intro w hSw
        obtain ⟨hSw0, hSw1⟩ := hSw
        go_simp
        first
          | done
          | with_reducible rfl
          | rw [if_neg (by omega)]
      try simp only [Act.put, List.setIfInBounds_toArray, List.set_cons_zero, List.set_cons_succ]
      refine wpAnyH_take (i := 2) (oi := { dst := some 16, op := Op.move (Operand.tmp 1), type := 3, pos := "value.go:77", after := #[], guard := none }) (v := ?_) rfl (by kernel_rfl) (by kernel_rfl) (by kernel_rfl) (fun _ _ _ h => h) (Or.inl ⟨by rfl, ?_⟩) ⟨fd0, fd1⟩ ?_
      rotate_left 1
      · intro w hSw
        obtain ⟨hSw0, hSw1⟩ := hSw
        go_simp
        first
          | done
          | with_reducible rfl
          | rw [if_neg (by omega)]
      try simp only [Act.put, List.setIfInBounds_toArray, List.set_cons_zero, List.set_cons_succ]
      refine wpAnyH_take (i := 3) (oi := { dst := some 17, op := Op.binOp BinOp.sub 3 (Operand.tmp 15) (Operand.tmp 16) 3, type := 3, pos := "value.go:77", after := #[{ on := 1, ground := Ground.data }, { on := 2, ground := Ground.data }], guard := none }) (v := .int .i64 (j : Int)) rfl (by kernel_rfl) (by kernel_rfl) (by kernel_rfl) (fun _ _ _ h => h) (Or.inl ⟨by rfl, ?_⟩) ⟨fd0, fd1⟩ ?_
      · intro w hSw
        go_simp
        first | done | (congr 1; omega) | exact IntWalk.i64_in _ (by omega)
      try simp only [Act.put, List.setIfInBounds_toArray, List.set_cons_zero, List.set_cons_succ]
      refine wpAnyH_take (i := 4) (oi := { dst := some 18, op := Op.indexAddr 36 (Operand.tmp 14) (Operand.tmp 17), type := 0, pos := "value.go:77", after := #[{ on := 0, ground := Ground.data }, { on := 3, ground := Ground.data }], guard := none }) (v := ?_) rfl (by kernel_rfl) (by kernel_rfl) (by kernel_rfl) (fun _ _ _ h => h) (Or.inl ⟨by rfl, ?_⟩) ⟨fd0, fd1⟩ ?_
      rotate_left 1
      · intro w hSw
        obtain ⟨hSw0, hSw1⟩ := hSw
        go_simp
        first
          | done
          | with_reducible rfl
          | rw [if_neg (by omega)]
      try simp only [Act.put, List.setIfInBounds_toArray, List.set_cons_zero, List.set_cons_succ]
      refine wpAnyH_take (i := 5) (oi := { dst := some 19, op := Op.load 22 (Operand.tmp 18), type := 22, pos := "value.go:77", after := #[{ on := 4, ground := Ground.data }], guard := none }) (v := ?_) rfl (by kernel_rfl) (by kernel_rfl) (by kernel_rfl) (fun _ _ _ h => h) (Or.inl ⟨by rfl, ?_⟩) ⟨fd0, fd1⟩ ?_
      rotate_left 1
      · intro w hSw
        obtain ⟨hSw0, hSw1⟩ := hSw
        go_simp
        first
          | done
          | with_reducible rfl
          | rw [if_neg (by omega)]
      try simp only [Act.put, List.setIfInBounds_toArray, List.set_cons_zero, List.set_cons_succ]
      refine wpAnyH_take (i := 6) (oi := { dst := some 20, op := Op.move (Operand.tmp 0), type := 36, pos := "value.go:77", after := #[], guard := none }) (v := ?_) rfl (by kernel_rfl) (by kernel_rfl) (by kernel_rfl) (fun _ _ _ h => h) (Or.inl ⟨by rfl, ?_⟩) ⟨fd0, fd1⟩ ?_
      rotate_left 1
      · intro w hSw
        obtain ⟨hSw0, hSw1⟩ := hSw
        go_simp
        first
          | done
          | with_reducible rfl
          | rw [if_neg (by omega)]
      try simp only [Act.put, List.setIfInBounds_toArray, List.set_cons_zero, List.set_cons_succ]
      refine wpAnyH_take (i := 7) (oi := { dst := some 21, op := Op.move (Operand.tmp 5), type := 3, pos := "value.go:77", after := #[], guard := none }) (v := ?_) rfl (by kernel_rfl) (by kernel_rfl) (by kernel_rfl) (fun _ _ _ h => h) (Or.inl ⟨by rfl, ?_⟩) ⟨fd0, fd1⟩ ?_
      rotate_left 1
      · intro w hSw
        obtain ⟨hSw0, hSw1⟩ := hSw
        go_simp
        first
          | done
          | with_reducible rfl
          | rw [if_neg (by omega)]
      try simp only [Act.put, List.setIfInBounds_toArray, List.set_cons_zero, List.set_cons_succ]
      refine wpAnyH_take (i := 8) (oi := { dst := some 22, op := Op.indexAddr 36 (Operand.tmp 20) (Operand.tmp 21), type := 0, pos := "value.go:77", after := #[{ on := 6, ground := Ground.data }, { on := 7, ground := Ground.data }], guard := none }) (v := ?_) rfl (by kernel_rfl) (by kernel_rfl) (by kernel_rfl) (fun _ _ _ h => h) (Or.inl ⟨by rfl, ?_⟩) ⟨fd0, fd1⟩ ?_
      rotate_left 1
      · intro w hSw
        obtain ⟨hSw0, hSw1⟩ := hSw
        go_simp
        first
          | done
          | with_reducible rfl
          | rw [if_neg (by omega)]
      try simp only [Act.put, List.setIfInBounds_toArray, List.set_cons_zero, List.set_cons_succ]
      refine wpAnyH_take (i := 9) (oi := { dst := some 23, op := Op.load 22 (Operand.tmp 22), type := 22, pos := "value.go:77", after := #[{ on := 8, ground := Ground.data }], guard := none }) (v := ?_) rfl (by kernel_rfl) (by kernel_rfl) (by kernel_rfl) (fun _ _ _ h => h) (Or.inl ⟨by rfl, ?_⟩) ⟨fd0, fd1⟩ ?_
      rotate_left 1
      · intro w hSw
        obtain ⟨hSw0, hSw1⟩ := hSw
        go_simp
        first
          | done
          | with_reducible rfl
          | rw [if_neg (by omega)]
      try simp only [Act.put, List.setIfInBounds_toArray, List.set_cons_zero, List.set_cons_succ]
      refine wpAnyH_ready (rs := [10]) (by kernel_rfl) (by simp) ?_
      refine AllReadyH.cons (o := { dst := some 24, op := Op.call { callee := Callee.value (Operand.func 57), args := #[Operand.tmp 19, Operand.tmp 23], argTypes := #[22, 22] }, type := 3, pos := "value.go:77", after := #[{ on := 5, ground := Ground.data }, { on := 9, ground := Ground.data }], guard := none }) rfl (fun K hK => ?_) AllReadyH.nil
      go_simp
      go_at_call 57
      refine (HC.out wd).mono ?_
      rintro e w502 ⟨rfl, hb⟩
      have HB9 := hide ((unhide HBd).trans (hb.mono (unhide HBd).size))
      have HR8 := hide ((unhide HRd).below hb)
      have e5 := (hb.cell (p := ⟨b5, o5 + j, none⟩) hb5d).trans (unhide fd0)
      have e6 := (hb.cell (p := ⟨b5, o5 + (j + 2), none⟩) hb5d).trans (unhide fd1)
      clear hb HBd HRd
      try dsimp only
      refine hK.out _ _ ⟨e5, e6⟩ (fun _ => ?_)
      clear hK K
      try simp only [Act.put, List.setIfInBounds_toArray, List.set_cons_zero, List.set_cons_succ]
      refine wpAnyH_take (i := 11) (oi := { dst := some 25, op := Op.binOp BinOp.geq 3 (Operand.tmp 24) (Operand.const (Value.int IntKind.i64 0)) 3, type := 4, pos := "value.go:77", after := #[{ on := 10, ground := Ground.data }], guard := none }) (v := ?_) rfl (by kernel_rfl) (by kernel_rfl) (by kernel_rfl) (fun _ _ _ h => h) (Or.inl ⟨by rfl, ?_⟩) ⟨e5, e6⟩ ?_
      rotate_left 1
      · intro w hSw
        obtain ⟨hSw0, hSw1⟩ := hSw
        go_simp
        first
          | done
          | with_reducible rfl
          | rw [if_neg (by omega)]
      try simp only [Act.put, List.setIfInBounds_toArray, List.set_cons_zero, List.set_cons_succ]
      refine wpAnyH_done (by kernel_rfl) ?_ _
      refine NoPanic.normal ?_
      clear HC hb5d fd0 fd1 hb5 hc5 hc7 hR hB
      by_cases ho : ord d x y < 0
      · have HA2 : Hid (ascL (ord d) (sel 2 l) = ascL (ord d) (sel 2 (l.drop (j + 2)))) := Lib.hid (by rw [HST.out, decide_eq_true ho]; rfl)
        have go1 : decide ((0 : Int) ≤ ord d x y) = false := decide_eq_false (by omega)
        have go2 : ¬ (0 ≤ ord d x y) := by omega
        clear HST
        go_wp2_with fail
        go_roundw
        case rel => exact ⟨j + 2, by go_num, by omega, unhide HR8, HA2.out, unhide HB9⟩
        case measure => simp [intOf]; omega
      · have HA2 : Hid (ascL (ord d) (sel 2 l) = false) := Lib.hid (by rw [HST.out, decide_eq_false ho]; rfl)
        have go1 : decide ((0 : Int) ≤ ord d x y) = true := decide_eq_true (by omega)
        have go2 : 0 ≤ ord d x y := by omega
        clear HST ho
        go_wp2_with fail
        go_ret
        exact ⟨by rw [HA2.out]; rfl, unhide HB9⟩
    · have HA2 : Hid (ascL (ord d) (sel 2 l) = true) := Lib.hid (by rw [hA.out]; exact sel_end (by decide) (by omega))
      have hj2 : ¬ ((j : Int) + 2 < (n : Int)) := by omega
      go_wp2_with fail
      go_ret
      exact ⟨by rw [HA2.out]; rfl, hB.out⟩

end Go.Proofs.YtaambeficfiacaaGreatDoor
