/- The reference's Compare is the program's. Condition: at most 2^48 bytes. -/
import Derived.Test.YtdifpemohdnolaaGreatVrE
import Derived.Test.YtdifpemohdnolaaGreatVaC2
namespace Go.Proofs.YtdifpemohdnolaaGreat
open Go.RowKit VM

def sel (z : Nat) (l : List V) : List V := if z = 2 then evens l else l
theorem evens_cons (b : V) (r : List V) : ∃ X, evens (b :: r) = b :: X := by
  cases r with
  | nil => exact ⟨[], rfl⟩
  | cons y r => exact ⟨evens r, rfl⟩
theorem drop_at {l : List V} {i : Nat} {b : V} (h : l[i]? = some b) : l.drop i = b :: l.drop (i + 1) := by
  have hi : i < l.length := (List.getElem?_eq_some_iff.1 h).1
  rw [List.drop_eq_getElem_cons hi]
  rw [List.getElem?_eq_getElem hi] at h
  rw [Option.some.inj h]
theorem ascL_two (f : V → V → Int) (a b : V) (l : List V) : ascL f (a :: b :: l) = (decide (f a b < 0) && ascL f (b :: l)) := rfl
theorem sel_step {f : V → V → Int} {l : List V} {z j : Nat} {a b : V} (hz : z = 1 ∨ z = 2) (ha : l[j]? = some a) (hb : l[j + z]? = some b) :
    ascL f (sel z (l.drop j)) = (decide (f a b < 0) && ascL f (sel z (l.drop (j + z)))) := by
  rcases hz with rfl | rfl
  · show ascL f (l.drop j) = (decide (f a b < 0) && ascL f (l.drop (j + 1)))
    rw [drop_at ha, drop_at hb]; rfl
  · show ascL f (evens (l.drop j)) = (decide (f a b < 0) && ascL f (evens (l.drop (j + 2))))
    have h1 : j + 1 < l.length := by have := (List.getElem?_eq_some_iff.1 hb).1; omega
    rw [drop_at ha, drop_at (List.getElem?_eq_getElem h1)]
    show ascL f (a :: evens (l.drop (j + 2))) = _
    rw [drop_at hb]
    obtain ⟨X, hX⟩ := evens_cons b (l.drop (j + 2 + 1))
    rw [hX]; rfl
theorem sel_end {f : V → V → Int} {l : List V} {z j : Nat} (hz : z = 1 ∨ z = 2) (h : l.length ≤ j + z) : ascL f (sel z (l.drop j)) = true := by
  have hl : (l.drop j).length ≤ z := by rw [List.length_drop]; omega
  generalize l.drop j = m at *
  rcases hz with rfl | rfl
  · match m, hl with
    | [], _ => rfl
    | [a], _ => rfl
    | a :: b :: m, hl => simp at hl
  · match m, hl with
    | [], _ => rfl
    | [a], _ => rfl
    | [a, b], _ => rfl
    | a :: b :: c :: m, hl => simp at hl

set_option linter.unusedSimpArgs false in
set_option maxRecDepth 100000 in
set_option maxHeartbeats 6400000 in
theorem asc_any1 (d : Nat) (hd : d ≤ 32) (l : List V) (ps : List ByteArray) (A : Option Addr) (n c : Nat) (w : World) (hn : n = ps.length) (hn1 : n ≤ 65535) (hw : l.all (wf d) = true) (hp : ps.map bs = l.map enc) (hs : ∀ s ∈ ps, s.size ≤ 1048576) (hr : InC w A (ps.map Value.string)) :
    Calls Tryz.prog 98 #[.slice A n c, .int .i64 1] w fun e w' => e = .returned (.bool (ascL (ord d) (sel 1 l))) ∧ Below w.heap.size w w' := by
  have HW := Lib.hid hw
  have HP := Lib.hid hp
  have HS := Lib.hid hs
  have HR := hide hr
  have HN := Lib.hid hn
  have l1 : l.length = n := by have := congrArg List.length hp; rw [List.length_map, List.length_map] at this; omega
  clear hw hp hs hr hn
  go_enter Tryz.func98, Tryz.ntmps98
  go_wp2_with fail
  go_loopw [5] (fun iv wr => ∃ j : Nat, iv = .int .i64 ((j + 1 : Nat) : Int) ∧ j ≤ n ∧ Hid (InC wr A (ps.map Value.string)) ∧ Hid (ascL (ord d) (sel 1 l) = ascL (ord d) (sel 1 (l.drop j))) ∧ Hid (Below w.heap.size w wr)) (fun iv _ => n + 1 - (intOf iv).toNat)
  case atStart => exact ⟨0, rfl, by omega, unhide HR, rfl, Below.refl _ _⟩
  case round =>
    obtain ⟨j, rfl, hj, hR, hA, hB⟩ := hrel
    by_cases hil : j + 1 < n
    · obtain ⟨x, hx⟩ : ∃ x, l[j]? = some x := ⟨l[j], List.getElem?_eq_getElem (by omega)⟩
      obtain ⟨y, hy⟩ : ∃ y, l[j + 1]? = some y := ⟨l[j + 1], List.getElem?_eq_getElem (by omega)⟩
      obtain ⟨u, hu⟩ : ∃ u, ps[j]? = some u := ⟨ps[j]'(by have := HN.out; omega), List.getElem?_eq_getElem _⟩
      obtain ⟨v, hv⟩ : ∃ v, ps[j + 1]? = some v := ⟨ps[j + 1]'(by have := HN.out; omega), List.getElem?_eq_getElem _⟩
      have hwx : wf d x = true := List.all_eq_true.1 HW.out x (List.mem_of_getElem? hx)
      have hwy : wf d y = true := List.all_eq_true.1 HW.out y (List.mem_of_getElem? hy)
      have hux : bs u = enc x := by
        have := congrArg (·[j]?) HP.out
        simp only [List.getElem?_map, hu, hx, Option.map_some, Option.some.injEq] at this
        exact this
      have hvy : bs v = enc y := by
        have := congrArg (·[j + 1]?) HP.out
        simp only [List.getElem?_map, hv, hy, Option.map_some, Option.some.injEq] at this
        exact this
      have HC := Lib.hid (fun w => or_any d hd u v x y hwx hwy hux hvy (HS.out u (List.mem_of_getElem? hu)) (HS.out v (List.mem_of_getElem? hv)) w)
      have HST : Hid (ascL (ord d) (sel 1 l) = (decide (ord d x y < 0) && ascL (ord d) (sel 1 (l.drop (j + 1))))) := Lib.hid (by rw [hA.out]; exact sel_step (by decide) hx hy)
      obtain ⟨b5, o5, hA1, hb5, hc5⟩ := at1s hR.out (i := j) (u := .string u) (by rw [List.getElem?_map, hu]; rfl)
      obtain ⟨b6, o6, hA2, hb6, hc6⟩ := at1s hR.out (i := j + 1) (u := .string v) (by rw [List.getElem?_map, hv]; rfl)
      subst hA1
      obtain ⟨rfl, rfl⟩ : b5 = b6 ∧ o5 = o6 := by simpa using hA2
      have hc7 : wr.cell? ⟨b5, o5 + (j + 1), none⟩ = some (.string v) := hc6
      have hjn : j < n := by omega
      have hj1 : (0 : Int) ≤ (j : Int) + 1 := by omega
      have hj2 : (j : Int) + 1 < (n : Int) := by omega
      have hj3 : ((j : Int) + 1).toNat = j + 1 := by omega
      clear hx hy hu hv hwx hwy hux hvy hA hA2 hc6 hb6
      go_wp2_with fail
      have fd0 : Hid (wr.drew.cell? ⟨b5, o5 + j, none⟩ = some (.string u)) := hc5
      have fd1 : Hid (wr.drew.cell? ⟨b5, o5 + (j + 1), none⟩ = some (.string v)) := hc7
      have HBd : Hid (Below w.heap.size w wr.drew) := below_drew hB.out
      have HRd : Hid (InC wr.drew (some ⟨b5, o5, none⟩) (ps.map Value.string)) := hR.out.drew
      have hb5d : b5 < wr.drew.heap.size := hb5
      refine wp_region_noPanic ?_
      refine wp_region_held_drew (S := fun W => W.cell? ⟨b5, o5 + j, none⟩ = some (.string u) ∧ W.cell? ⟨b5, o5 + (j + 1), none⟩ = some (.string v)) (by kernel_rfl) ⟨fd0, fd1⟩ (fun _ => ?_)
      generalize wr.drew = wd at *
      try simp only [Act.put, List.setIfInBounds_toArray, List.set_cons_zero, List.set_cons_succ]
      refine wpAnyH_take (i := 0) (oi := { dst := some 14, op := Op.move (Operand.tmp 0), type := 24, pos := "value.go:77", after := #[], guard := none }) (v := ?_) rfl (by kernel_rfl) (by kernel_rfl) (by kernel_rfl) (fun _ _ _ h => h) (Or.inl ⟨by rfl, ?_⟩) ⟨fd0, fd1⟩ ?_
      rotate_left 1
      · intro w hSw
        obtain ⟨hSw0, hSw1⟩ := hSw
        go_simp
        first
          | done
          | with_reducible rfl
          | rw [if_neg (by omega)]
      try simp only [Act.put, List.setIfInBounds_toArray, List.set_cons_zero, List.set_cons_succ]
      refine wpAnyH_take (i := 1) (oi := { dst := some 15, op := Op.move (Operand.tmp 5), type := 3, pos := "value.go:77", after := #[], guard := none }) (v := ?_) rfl (by kernel_rfl) (by kernel_rfl) (by kernel_rfl) (fun _ _ _ h => h) (Or.inl ⟨by rfl, ?_⟩) ⟨fd0, fd1⟩ ?_
      rotate_left 1
      · intro w hSw
        obtain ⟨hSw0, hSw1⟩ := hSw
        go_simp
        first
          | done
          | with_reducible rfl
          | rw [if_neg (by omega)]
      try simp only [Act.put, List.setIfInBounds_toArray, List.set_cons_zero, List.set_cons_succ]
      refine wpAnyH_take (i := 2) (oi := { dst := some 16, op := Op.move (Operand.tmp 1), type := 3, pos := "value.go:77", after := #[], guard := none }) (v := ?_) rfl (by kernel_rfl) (by kernel_rfl) (by kernel_rfl) (fun _ _ _ h => h) (Or.inl ⟨by rfl, ?_⟩) ⟨fd0, fd1⟩ ?_
      rotate_left 1
      · intro w hSw
        obtain ⟨hSw0, hSw1⟩ := hSw
        go_simp
        first
          | done
          | with_reducible rfl
          | rw [if_neg (by omega)]
      try simp only [Act.put, List.setIfInBounds_toArray, List.set_cons_zero, List.set_cons_succ]
      refine wpAnyH_take (i := 3) (oi := { dst := some 17, op := Op.binOp BinOp.sub 3 (Operand.tmp 15) (Operand.tmp 16) 3, type := 3, pos := "value.go:77", after := #[{ on := 1, ground := Ground.data }, { on := 2, ground := Ground.data }], guard := none }) (v := .int .i64 (j : Int)) rfl (by kernel_rfl) (by kernel_rfl) (by kernel_rfl) (fun _ _ _ h => h) (Or.inl ⟨by rfl, ?_⟩) ⟨fd0, fd1⟩ ?_
      · intro w hSw
        go_simp
        first | done | (congr 1; omega) | exact IntWalk.i64_in _ (by omega)
      try simp only [Act.put, List.setIfInBounds_toArray, List.set_cons_zero, List.set_cons_succ]
      refine wpAnyH_take (i := 4) (oi := { dst := some 18, op := Op.indexAddr 24 (Operand.tmp 14) (Operand.tmp 17), type := 0, pos := "value.go:77", after := #[{ on := 0, ground := Ground.data }, { on := 3, ground := Ground.data }], guard := none }) (v := ?_) rfl (by kernel_rfl) (by kernel_rfl) (by kernel_rfl) (fun _ _ _ h => h) (Or.inl ⟨by rfl, ?_⟩) ⟨fd0, fd1⟩ ?_
      rotate_left 1
      · intro w hSw
        obtain ⟨hSw0, hSw1⟩ := hSw
        go_simp
        first
          | done
          | with_reducible rfl
          | rw [if_neg (by omega)]
      try simp only [Act.put, List.setIfInBounds_toArray, List.set_cons_zero, List.set_cons_succ]
      refine wpAnyH_take (i := 5) (oi := { dst := some 19, op := Op.load 23 (Operand.tmp 18), type := 23, pos := "value.go:77", after := #[{ on := 4, ground := Ground.data }], guard := none }) (v := ?_) rfl (by kernel_rfl) (by kernel_rfl) (by kernel_rfl) (fun _ _ _ h => h) (Or.inl ⟨by rfl, ?_⟩) ⟨fd0, fd1⟩ ?_
      rotate_left 1
      · intro w hSw
        obtain ⟨hSw0, hSw1⟩ := hSw
        go_simp
        first
          | done
          | with_reducible rfl
          | rw [if_neg (by omega)]
      try simp only [Act.put, List.setIfInBounds_toArray, List.set_cons_zero, List.set_cons_succ]
      refine wpAnyH_take (i := 6) (oi := { dst := some 20, op := Op.move (Operand.tmp 0), type := 24, pos := "value.go:77", after := #[], guard := none }) (v := ?_) rfl (by kernel_rfl) (by kernel_rfl) (by kernel_rfl) (fun _ _ _ h => h) (Or.inl ⟨by rfl, ?_⟩) ⟨fd0, fd1⟩ ?_
      rotate_left 1
      · intro w hSw
        obtain ⟨hSw0, hSw1⟩ := hSw
        go_simp
        first
          | done
          | with_reducible rfl
          | rw [if_neg (by omega)]
      try simp only [Act.put, List.setIfInBounds_toArray, List.set_cons_zero, List.set_cons_succ]
      refine wpAnyH_take (i := 7) (oi := { dst := some 21, op := Op.move (Operand.tmp 5), type := 3, pos := "value.go:77", after := #[], guard := none }) (v := ?_) rfl (by kernel_rfl) (by kernel_rfl) (by kernel_rfl) (fun _ _ _ h => h) (Or.inl ⟨by rfl, ?_⟩) ⟨fd0, fd1⟩ ?_
      rotate_left 1
      · intro w hSw
        obtain ⟨hSw0, hSw1⟩ := hSw
        go_simp
        first
          | done
          | with_reducible rfl
          | rw [if_neg (by omega)]
      try simp only [Act.put, List.setIfInBounds_toArray, List.set_cons_zero, List.set_cons_succ]
      refine wpAnyH_take (i := 8) (oi := { dst := some 22, op := Op.indexAddr 24 (Operand.tmp 20) (Operand.tmp 21), type := 0, pos := "value.go:77", after := #[{ on := 6, ground := Ground.data }, { on := 7, ground := Ground.data }], guard := none }) (v := ?_) rfl (by kernel_rfl) (by kernel_rfl) (by kernel_rfl) (fun _ _ _ h => h) (Or.inl ⟨by rfl, ?_⟩) ⟨fd0, fd1⟩ ?_
      rotate_left 1
      · intro w hSw
        obtain ⟨hSw0, hSw1⟩ := hSw
        go_simp
        first
          | done
          | with_reducible rfl
          | rw [if_neg (by omega)]
      try simp only [Act.put, List.setIfInBounds_toArray, List.set_cons_zero, List.set_cons_succ]
      refine wpAnyH_take (i := 9) (oi := { dst := some 23, op := Op.load 23 (Operand.tmp 22), type := 23, pos := "value.go:77", after := #[{ on := 8, ground := Ground.data }], guard := none }) (v := ?_) rfl (by kernel_rfl) (by kernel_rfl) (by kernel_rfl) (fun _ _ _ h => h) (Or.inl ⟨by rfl, ?_⟩) ⟨fd0, fd1⟩ ?_
      rotate_left 1
      · intro w hSw
        obtain ⟨hSw0, hSw1⟩ := hSw
        go_simp
        first
          | done
          | with_reducible rfl
          | rw [if_neg (by omega)]
      try simp only [Act.put, List.setIfInBounds_toArray, List.set_cons_zero, List.set_cons_succ]
      refine wpAnyH_ready (rs := [10]) (by kernel_rfl) (by simp) ?_
      refine AllReadyH.cons (o := { dst := some 24, op := Op.call { callee := Callee.value (Operand.func 69), args := #[Operand.tmp 19, Operand.tmp 23], argTypes := #[23, 23] }, type := 3, pos := "value.go:77", after := #[{ on := 5, ground := Ground.data }, { on := 9, ground := Ground.data }], guard := none }) rfl (fun K hK => ?_) AllReadyH.nil
      go_simp
      go_at_call 69
      refine (HC.out wd).mono ?_
      rintro e w501 ⟨rfl, hb⟩
      have HB9 := hide ((unhide HBd).trans (hb.mono (unhide HBd).size))
      have HR8 := hide ((unhide HRd).below hb)
      have e5 := (hb.cell (p := ⟨b5, o5 + j, none⟩) hb5d).trans (unhide fd0)
      have e6 := (hb.cell (p := ⟨b5, o5 + (j + 1), none⟩) hb5d).trans (unhide fd1)
      clear hb HBd HRd
      try dsimp only
      refine hK.out _ _ ⟨e5, e6⟩ (fun _ => ?_)
      clear hK K
      try simp only [Act.put, List.setIfInBounds_toArray, List.set_cons_zero, List.set_cons_succ]
      refine wpAnyH_take (i := 11) (oi := { dst := some 25, op := Op.binOp BinOp.geq 3 (Operand.tmp 24) (Operand.const (Value.int IntKind.i64 0)) 3, type := 4, pos := "value.go:77", after := #[{ on := 10, ground := Ground.data }], guard := none }) (v := ?_) rfl (by kernel_rfl) (by kernel_rfl) (by kernel_rfl) (fun _ _ _ h => h) (Or.inl ⟨by rfl, ?_⟩) ⟨e5, e6⟩ ?_
      rotate_left 1
      · intro w hSw
        obtain ⟨hSw0, hSw1⟩ := hSw
        go_simp
        first
          | done
          | with_reducible rfl
          | rw [if_neg (by omega)]
      try simp only [Act.put, List.setIfInBounds_toArray, List.set_cons_zero, List.set_cons_succ]
      refine wpAnyH_done (by kernel_rfl) ?_ _
      refine NoPanic.normal ?_
      clear HC hb5d fd0 fd1 hb5 hc5 hc7 hR hB
      by_cases ho : ord d x y < 0
      · have HA2 : Hid (ascL (ord d) (sel 1 l) = ascL (ord d) (sel 1 (l.drop (j + 1)))) := Lib.hid (by rw [HST.out, decide_eq_true ho]; rfl)
        have go1 : decide ((0 : Int) ≤ ord d x y) = false := decide_eq_false (by omega)
        have go2 : ¬ (0 ≤ ord d x y) := by omega
        clear HST
        go_wp2_with fail
        go_roundw
        case rel => exact ⟨j + 1, by go_num, by omega, unhide HR8, HA2.out, unhide HB9⟩
        case measure => simp [intOf]; omega
      · have HA2 : Hid (ascL (ord d) (sel 1 l) = false) := Lib.hid (by rw [HST.out, decide_eq_false ho]; rfl)
        have go1 : decide ((0 : Int) ≤ ord d x y) = true := decide_eq_true (by omega)
        have go2 : 0 ≤ ord d x y := by omega
        clear HST ho
        go_wp2_with fail
        go_ret
        exact ⟨by rw [HA2.out]; rfl, unhide HB9⟩
    · have HA2 : Hid (ascL (ord d) (sel 1 l) = true) := Lib.hid (by rw [hA.out]; exact sel_end (by decide) (by omega))
      have hj2 : ¬ ((j : Int) + 1 < (n : Int)) := by omega
      go_wp2_with fail
      go_ret
      exact ⟨by rw [HA2.out]; rfl, hB.out⟩

set_option linter.unusedSimpArgs false in
set_option maxRecDepth 100000 in
set_option maxHeartbeats 6400000 in
theorem asc_any2 (d : Nat) (hd : d ≤ 32) (l : List V) (ps : List ByteArray) (A : Option Addr) (n c : Nat) (w : World) (hn : n = ps.length) (hn1 : n ≤ 65535) (hw : l.all (wf d) = true) (hp : ps.map bs = l.map enc) (hs : ∀ s ∈ ps, s.size ≤ 1048576) (hr : InC w A (ps.map Value.string)) :
    Calls Tryz.prog 98 #[.slice A n c, .int .i64 2] w fun e w' => e = .returned (.bool (ascL (ord d) (sel 2 l))) ∧ Below w.heap.size w w' := by
  have HW := Lib.hid hw
  have HP := Lib.hid hp
  have HS := Lib.hid hs
  have HR := hide hr
  have HN := Lib.hid hn
  have l1 : l.length = n := by have := congrArg List.length hp; rw [List.length_map, List.length_map] at this; omega
  clear hw hp hs hr hn
  go_enter Tryz.func98, Tryz.ntmps98
  go_wp2_with fail
  go_loopw [5] (fun iv wr => ∃ j : Nat, iv = .int .i64 ((j + 2 : Nat) : Int) ∧ j ≤ n ∧ Hid (InC wr A (ps.map Value.string)) ∧ Hid (ascL (ord d) (sel 2 l) = ascL (ord d) (sel 2 (l.drop j))) ∧ Hid (Below w.heap.size w wr)) (fun iv _ => n + 2 - (intOf iv).toNat)
  case atStart => exact ⟨0, rfl, by omega, unhide HR, rfl, Below.refl _ _⟩
  case round =>
    obtain ⟨j, rfl, hj, hR, hA, hB⟩ := hrel
    by_cases hil : j + 2 < n
    · obtain ⟨x, hx⟩ : ∃ x, l[j]? = some x := ⟨l[j], List.getElem?_eq_getElem (by omega)⟩
      obtain ⟨y, hy⟩ : ∃ y, l[j + 2]? = some y := ⟨l[j + 2], List.getElem?_eq_getElem (by omega)⟩
      obtain ⟨u, hu⟩ : ∃ u, ps[j]? = some u := ⟨ps[j]'(by have := HN.out; omega), List.getElem?_eq_getElem _⟩
      obtain ⟨v, hv⟩ : ∃ v, ps[j + 2]? = some v := ⟨ps[j + 2]'(by have := HN.out; omega), List.getElem?_eq_getElem _⟩
      have hwx : wf d x = true := List.all_eq_true.1 HW.out x (List.mem_of_getElem? hx)
      have hwy : wf d y = true := List.all_eq_true.1 HW.out y (List.mem_of_getElem? hy)
      have hux : bs u = enc x := by
        have := congrArg (·[j]?) HP.out
        simp only [List.getElem?_map, hu, hx, Option.map_some, Option.some.injEq] at this
        exact this
      have hvy : bs v = enc y := by
        have := congrArg (·[j + 2]?) HP.out
        simp only [List.getElem?_map, hv, hy, Option.map_some, Option.some.injEq] at this
        exact this
      have HC := Lib.hid (fun w => or_any d hd u v x y hwx hwy hux hvy (HS.out u (List.mem_of_getElem? hu)) (HS.out v (List.mem_of_getElem? hv)) w)
      have HST : Hid (ascL (ord d) (sel 2 l) = (decide (ord d x y < 0) && ascL (ord d) (sel 2 (l.drop (j + 2))))) := Lib.hid (by rw [hA.out]; exact sel_step (by decide) hx hy)
      obtain ⟨b5, o5, hA1, hb5, hc5⟩ := at1s hR.out (i := j) (u := .string u) (by rw [List.getElem?_map, hu]; rfl)
      obtain ⟨b6, o6, hA2, hb6, hc6⟩ := at1s hR.out (i := j + 2) (u := .string v) (by rw [List.getElem?_map, hv]; rfl)
      subst hA1
      obtain ⟨rfl, rfl⟩ : b5 = b6 ∧ o5 = o6 := by simpa using hA2
      have hc7 : wr.cell? ⟨b5, o5 + (j + 2), none⟩ = some (.string v) := hc6
      have hjn : j < n := by omega
      have hj1 : (0 : Int) ≤ (j : Int) + 2 := by omega
      have hj2 : (j : Int) + 2 < (n : Int) := by omega
      have hj3 : ((j : Int) + 2).toNat = j + 2 := by omega
      clear hx hy hu hv hwx hwy hux hvy hA hA2 hc6 hb6
      go_wp2_with fail
      have fd0 : Hid (wr.drew.cell? ⟨b5, o5 + j, none⟩ = some (.string u)) := hc5
      have fd1 : Hid (wr.drew.cell? ⟨b5, o5 + (j + 2), none⟩ = some (.string v)) := hc7
      have HBd : Hid (Below w.heap.size w wr.drew) := below_drew hB.out
      have HRd : Hid (InC wr.drew (some ⟨b5, o5, none⟩) (ps.map Value.string)) := hR.out.drew
      have hb5d : b5 < wr.drew.heap.size := hb5
      refine wp_region_noPanic ?_
      refine wp_region_held_drew (S := fun W => W.cell? ⟨b5, o5 + j, none⟩ = some (.string u) ∧ W.cell? ⟨b5, o5 + (j + 2), none⟩ = some (.string v)) (by kernel_rfl) ⟨fd0, fd1⟩ (fun _ => ?_)
      generalize wr.drew = wd at *
      try simp only [Act.put, List.setIfInBounds_toArray, List.set_cons_zero, List.set_cons_succ]
      refine wpAnyH_take (i := 0) (oi := { dst := some 14, op := Op.move (Operand.tmp 0), type := 24, pos := "value.go:77", after := #[], guard := none }) (v := ?_) rfl (by kernel_rfl) (by kernel_rfl) (by kernel_rfl) (fun _ _ _ h => h) (Or.inl ⟨by rfl, ?_⟩) ⟨fd0, fd1⟩ ?_
      rotate_left 1
      · intro w hSw
        obtain ⟨hSw0, hSw1⟩ := hSw
        go_simp
        first
          | done
          | with_reducible rfl
          | rw [if_neg (by omega)]
      try simp only [Act.put, List.setIfInBounds_toArray, List.set_cons_zero, List.set_cons_succ]
      refine wpAnyH_take (i := 1) (oi := { dst := some 15, op := Op.move (Operand.tmp 5), type := 3, pos := "value.go:77", after := #[], guard := none }) (v := ?_) rfl (by kernel_rfl) (by kernel_rfl) (by kernel_rfl) (fun _ _ _ h => h) (Or.inl ⟨by rfl, ?_⟩) ⟨fd0, fd1⟩ ?_
      rotate_left 1
      · intro w hSw
        obtain ⟨hSw0, hSw1⟩ := hSw
        go_simp
        first
          | done
          | with_reducible rfl
          | rw [if_neg (by omega)]
      try simp only [Act.put, List.setIfInBounds_toArray, List.set_cons_zero, List.set_cons_succ]
      refine wpAnyH_take (i := 2) (oi := { dst := some 16, op := Op.move (Operand.tmp 1), type := 3, pos := "value.go:77", after := #[], guard := none }) (v := ?_) rfl (by kernel_rfl) (by kernel_rfl) (by kernel_rfl) (fun _ _ _ h => h) (Or.inl ⟨by rfl, ?_⟩) ⟨fd0, fd1⟩ ?_
      rotate_left 1
      · intro w hSw
        obtain ⟨hSw0, hSw1⟩ := hSw
        go_simp
        first
          | done
          | with_reducible rfl
          | rw [if_neg (by omega)]
      try simp only [Act.put, List.setIfInBounds_toArray, List.set_cons_zero, List.set_cons_succ]
      refine wpAnyH_take (i := 3) (oi := { dst := some 17, op := Op.binOp BinOp.sub 3 (Operand.tmp 15) (Operand.tmp 16) 3, type := 3, pos := "value.go:77", after := #[{ on := 1, ground := Ground.data }, { on := 2, ground := Ground.data }], guard := none }) (v := .int .i64 (j : Int)) rfl (by kernel_rfl) (by kernel_rfl) (by kernel_rfl) (fun _ _ _ h => h) (Or.inl ⟨by rfl, ?_⟩) ⟨fd0, fd1⟩ ?_
      · intro w hSw
        go_simp
        first | done | (congr 1; omega) | exact IntWalk.i64_in _ (by omega)
      try simp only [Act.put, List.setIfInBounds_toArray, List.set_cons_zero, List.set_cons_succ]
      refine wpAnyH_take (i := 4) (oi := { dst := some 18, op := Op.indexAddr 24 (Operand.tmp 14) (Operand.tmp 17), type := 0, pos := "value.go:77", after := #[{ on := 0, ground := Ground.data }, { on := 3, ground := Ground.data }], guard := none }) (v := ?_) rfl (by kernel_rfl) (by kernel_rfl) (by kernel_rfl) (fun _ _ _ h => h) (Or.inl ⟨by rfl, ?_⟩) ⟨fd0, fd1⟩ ?_
      rotate_left 1
      · intro w hSw
        obtain ⟨hSw0, hSw1⟩ := hSw
        go_simp
        first
          | done
          | with_reducible rfl
          | rw [if_neg (by omega)]
      try simp only [Act.put, List.setIfInBounds_toArray, List.set_cons_zero, List.set_cons_succ]
      refine wpAnyH_take (i := 5) (oi := { dst := some 19, op := Op.load 23 (Operand.tmp 18), type := 23, pos := "value.go:77", after := #[{ on := 4, ground := Ground.data }], guard := none }) (v := ?_) rfl (by kernel_rfl) (by kernel_rfl) (by kernel_rfl) (fun _ _ _ h => h) (Or.inl ⟨by rfl, ?_⟩) ⟨fd0, fd1⟩ ?_
      rotate_left 1
      · intro w hSw
        obtain ⟨hSw0, hSw1⟩ := hSw
        go_simp
        first
          | done
          | with_reducible rfl
          | rw [if_neg (by omega)]
      try simp only [Act.put, List.setIfInBounds_toArray, List.set_cons_zero, List.set_cons_succ]
      refine wpAnyH_take (i := 6) (oi := { dst := some 20, op := Op.move (Operand.tmp 0), type := 24, pos := "value.go:77", after := #[], guard := none }) (v := ?_) rfl (by kernel_rfl) (by kernel_rfl) (by kernel_rfl) (fun _ _ _ h => h) (Or.inl ⟨by rfl, ?_⟩) ⟨fd0, fd1⟩ ?_
      rotate_left 1
      · intro w hSw
        obtain ⟨hSw0, hSw1⟩ := hSw
        go_simp
        first
          | done
          | with_reducible rfl
          | rw [if_neg (by omega)]
      try simp only [Act.put, List.setIfInBounds_toArray, List.set_cons_zero, List.set_cons_succ]
      refine wpAnyH_take (i := 7) (oi := { dst := some 21, op := Op.move (Operand.tmp 5), type := 3, pos := "value.go:77", after := #[], guard := none }) (v := ?_) rfl (by kernel_rfl) (by kernel_rfl) (by kernel_rfl) (fun _ _ _ h => h) (Or.inl ⟨by rfl, ?_⟩) ⟨fd0, fd1⟩ ?_
      rotate_left 1
      · intro w hSw
        obtain ⟨hSw0, hSw1⟩ := hSw
        go_simp
        first
          | done
          | with_reducible rfl
          | rw [if_neg (by omega)]
      try simp only [Act.put, List.setIfInBounds_toArray, List.set_cons_zero, List.set_cons_succ]
      refine wpAnyH_take (i := 8) (oi := { dst := some 22, op := Op.indexAddr 24 (Operand.tmp 20) (Operand.tmp 21), type := 0, pos := "value.go:77", after := #[{ on := 6, ground := Ground.data }, { on := 7, ground := Ground.data }], guard := none }) (v := ?_) rfl (by kernel_rfl) (by kernel_rfl) (by kernel_rfl) (fun _ _ _ h => h) (Or.inl ⟨by rfl, ?_⟩) ⟨fd0, fd1⟩ ?_
      rotate_left 1
      · intro w hSw
        obtain ⟨hSw0, hSw1⟩ := hSw
        go_simp
        first
          | done
          | with_reducible rfl
          | rw [if_neg (by omega)]
      try simp only [Act.put, List.setIfInBounds_toArray, List.set_cons_zero, List.set_cons_succ]
      refine wpAnyH_take (i := 9) (oi := { dst := some 23, op := Op.load 23 (Operand.tmp 22), type := 23, pos := "value.go:77", after := #[{ on := 8, ground := Ground.data }], guard := none }) (v := ?_) rfl (by kernel_rfl) (by kernel_rfl) (by kernel_rfl) (fun _ _ _ h => h) (Or.inl ⟨by rfl, ?_⟩) ⟨fd0, fd1⟩ ?_
      rotate_left 1
      · intro w hSw
        obtain ⟨hSw0, hSw1⟩ := hSw
        go_simp
        first
          | done
          | with_reducible rfl
          | rw [if_neg (by omega)]
      try simp only [Act.put, List.setIfInBounds_toArray, List.set_cons_zero, List.set_cons_succ]
      refine wpAnyH_ready (rs := [10]) (by kernel_rfl) (by simp) ?_
      refine AllReadyH.cons (o := { dst := some 24, op := Op.call { callee := Callee.value (Operand.func 69), args := #[Operand.tmp 19, Operand.tmp 23], argTypes := #[23, 23] }, type := 3, pos := "value.go:77", after := #[{ on := 5, ground := Ground.data }, { on := 9, ground := Ground.data }], guard := none }) rfl (fun K hK => ?_) AllReadyH.nil
      go_simp
      go_at_call 69
      refine (HC.out wd).mono ?_
      rintro e w502 ⟨rfl, hb⟩
      have HB9 := hide ((unhide HBd).trans (hb.mono (unhide HBd).size))
      have HR8 := hide ((unhide HRd).below hb)
      have e5 := (hb.cell (p := ⟨b5, o5 + j, none⟩) hb5d).trans (unhide fd0)
      have e6 := (hb.cell (p := ⟨b5, o5 + (j + 2), none⟩) hb5d).trans (unhide fd1)
      clear hb HBd HRd
      try dsimp only
      refine hK.out _ _ ⟨e5, e6⟩ (fun _ => ?_)
      clear hK K
      try simp only [Act.put, List.setIfInBounds_toArray, List.set_cons_zero, List.set_cons_succ]
      refine wpAnyH_take (i := 11) (oi := { dst := some 25, op := Op.binOp BinOp.geq 3 (Operand.tmp 24) (Operand.const (Value.int IntKind.i64 0)) 3, type := 4, pos := "value.go:77", after := #[{ on := 10, ground := Ground.data }], guard := none }) (v := ?_) rfl (by kernel_rfl) (by kernel_rfl) (by kernel_rfl) (fun _ _ _ h => h) (Or.inl ⟨by rfl, ?_⟩) ⟨e5, e6⟩ ?_
      rotate_left 1
      · intro w hSw
        obtain ⟨hSw0, hSw1⟩ := hSw
        go_simp
        first
          | done
          | with_reducible rfl
          | rw [if_neg (by omega)]
      try simp only [Act.put, List.setIfInBounds_toArray, List.set_cons_zero, List.set_cons_succ]
      refine wpAnyH_done (by kernel_rfl) ?_ _
      refine NoPanic.normal ?_
      clear HC hb5d fd0 fd1 hb5 hc5 hc7 hR hB
      by_cases ho : ord d x y < 0
      · have HA2 : Hid (ascL (ord d) (sel 2 l) = ascL (ord d) (sel 2 (l.drop (j + 2)))) := Lib.hid (by rw [HST.out, decide_eq_true ho]; rfl)
        have go1 : decide ((0 : Int) ≤ ord d x y) = false := decide_eq_false (by omega)
        have go2 : ¬ (0 ≤ ord d x y) := by omega
        clear HST
        go_wp2_with fail
        go_roundw
        case rel => exact ⟨j + 2, by go_num, by omega, unhide HR8, HA2.out, unhide HB9⟩
        case measure => simp [intOf]; omega
      · have HA2 : Hid (ascL (ord d) (sel 2 l) = false) := Lib.hid (by rw [HST.out, decide_eq_false ho]; rfl)
        have go1 : decide ((0 : Int) ≤ ord d x y) = true := decide_eq_true (by omega)
        have go2 : 0 ≤ ord d x y := by omega
        clear HST ho
        go_wp2_with fail
        go_ret
        exact ⟨by rw [HA2.out]; rfl, unhide HB9⟩
    · have HA2 : Hid (ascL (ord d) (sel 2 l) = true) := Lib.hid (by rw [hA.out]; exact sel_end (by decide) (by omega))
      have hj2 : ¬ ((j : Int) + 2 < (n : Int)) := by omega
      go_wp2_with fail
      go_ret
      exact ⟨by rw [HA2.out]; rfl, hB.out⟩

end Go.Proofs.YtdifpemohdnolaaGreat
namespace Go.Proofs.YtdifpemohdnolaaGreat
open Go.RowKit VM

def smallV (lo hi : Int) : V → Bool
  | .int l => decide (lo ≤ numL l) && decide (numL l ≤ hi)
  | _ => false
set_option linter.unusedSimpArgs false in
set_option maxRecDepth 100000 in
set_option maxHeartbeats 3200000 in
theorem small_any (d : Nat) (s : ByteArray) (x : V) (lo hi : Int) (hx : wf d x = true) (hs : bs s = enc x) (hb : s.size ≤ 1048576) (w : World) :
    Calls Tryz.prog 99 #[.string s, .int .i64 lo, .int .i64 hi] w fun e w' => e = .returned (.bool (smallV lo hi x)) ∧ w = w' := by
  obtain ⟨hs0, k0⟩ := enc_first (r := []) hx (by rw [hs, List.append_nil])
  have e1 : s[0] = x.kind := by rw [bs_get s 0 hs0] at k0; exact Option.some.inj k0
  have wk : wrap64 (x.kind.toNat : Int) = (x.kind.toNat : Int) := IntWalk.wrap64_in _ (by have := x.kind.toNat_lt; omega)
  have HSM : ∀ l, x = .int l → Hid (∀ w, Calls Tryz.prog 85 #[.string (s.extract 1 s.size)] w fun e w' => e = .returned (.int .i64 (numL l)) ∧ w = w') := fun l hl => Lib.hid (by
    subst hl
    have hl := wf_int hx
    have hz1 : 8 ≤ (s.extract 1 s.size).size ∧ (s.extract 1 s.size).size ≤ 1048576 := by
      have zs := bs_size s
      rw [hs] at zs
      rw [← bs_size, bs_extract, hs]
      show 8 ≤ l.length ∧ l.length ≤ 1048576
      omega
    have q1 : (bs (s.extract 1 s.size)).take 8 = l := by
      rw [bs_extract, hs]
      show l.take 8 = l
      exact List.take_of_length_le (by omega)
    intro w
    have := rnumber_any (s.extract 1 s.size) hz1.1 hz1.2 w
    rw [q1] at this
    exact this)
  cases x with
  | int l =>
    have HN := HSM l rfl
    have e3 : s[0] = 1 := e1
    have hs9 : 1 ≤ s.size := hs0
    clear HSM e1 wk k0 hs hx
    by_cases g1 : lo ≤ numL l
    · go_enter Tryz.func99, Tryz.ntmps99
      go_wp2_with fail
      refine (HN.out _).mono ?_
      rintro e w4 ⟨rfl, rfl⟩
      go_wp2_with fail
      refine (HN.out _).mono ?_
      rintro e w4 ⟨rfl, rfl⟩
      go_wp2_with fail
      go_ret
      exact ⟨ret_b (by unfold smallV; simp [g1]), rfl⟩
    · go_enter Tryz.func99, Tryz.ntmps99
      go_wp2_with fail
      refine (HN.out _).mono ?_
      rintro e w4 ⟨rfl, rfl⟩
      go_wp2_with fail
      go_ret
      exact ⟨ret_b (by show false = (decide (lo ≤ numL l) && decide (numL l ≤ hi)); rw [decide_eq_false (p := lo ≤ numL l) (by omega)]; rfl), rfl⟩
  | bool b =>
    have e3 : s[0] = 2 := e1
    clear HSM e1 wk k0 hs hx
    go_enter Tryz.func99, Tryz.ntmps99
    go_wp2_with fail
    go_ret
    exact ⟨rfl, rfl⟩
  | name a b =>
    have e3 : s[0] = 10 := e1
    clear HSM e1 wk k0 hs hx
    go_enter Tryz.func99, Tryz.ntmps99
    go_wp2_with fail
    go_ret
    exact ⟨rfl, rfl⟩
  | comp k l =>
    have e3 : s[0] = k := e1
    have wk2 : wrap64 (k.toNat : Int) = (k.toNat : Int) := wk
    have g1 : ((k.toNat : Int) == 1) = false := u8_ne (kind_comp hx).1
    clear HSM e1 wk k0 hs hx
    go_enter Tryz.func99, Tryz.ntmps99
    go_wp2_with fail
    go_ret
    exact ⟨rfl, rfl⟩

end Go.Proofs.YtdifpemohdnolaaGreat
namespace Go.Proofs.YtdifpemohdnolaaGreat
open Go.RowKit VM

theorem part_at {l : List V} {ps : List ByteArray} (hp : ps.map bs = l.map enc) {i : Nat} {x : V} {u : ByteArray} (hx : l[i]? = some x) (hu : ps[i]? = some u) : bs u = enc x := by
  have := congrArg (·[i]?) hp
  simp only [List.getElem?_map, hu, hx, Option.map_some, Option.some.injEq] at this
  exact this
theorem head7 {d : Nat} {a : V} (h : wf d a = true) : ((a.kind.toNat : Int) == 10) = headOK 7 a := by
  cases a with
  | int l => rfl
  | bool b => rfl
  | name b c => rfl
  | comp k l =>
    have hk := (kind_comp h).2.2
    show ((k.toNat : Int) == 10) = false
    exact u8_ne hk
set_option linter.unusedSimpArgs false in
set_option maxRecDepth 100000 in
set_option maxHeartbeats 6400000 in
theorem parted_any (d : Nat) (hd : d ≤ 32) : PtCon d := by
  intro k l ps A n c w hn hn1 hk hw hp hs hr
  have l1 : l.length = n := by have := congrArg List.length hp; rw [List.length_map, List.length_map] at this; omega
  have HA1 := Lib.hid (fun w hr => asc_any1 d hd l ps A n c w hn hn1 hw hp hs hr)
  have HA2 := Lib.hid (fun w hr => asc_any2 d hd l ps A n c w hn hn1 hw hp hs hr)
  have HR := hide hr
  have hk39 : 3 ≤ k.toNat ∧ k.toNat ≤ 9 := by unfold isComp at hk; exact of_decide_eq_true hk
  by_cases k3 : k = 3
  · subst k3
    have e : parted (ord d) 3 l = decide (2 ≤ n ∧ n ≤ 8) := by
      unfold parted countOK headL ascOK
      rw [l1]
      cases l with
      | nil => simp
      | cons a l => simp [headOK_ne (k := 3) (by decide) (by decide) (by decide) a]
    rw [e]
    clear hn hw hp hs hr hk hk39 e
    go_enter Tryz.func84, Tryz.ntmps84
    go_wp2_with fail
    all_goals
      go_ret
      exact ⟨ret_b (by rw [Bool.eq_iff_iff]; simp; try omega), Below.refl _ _⟩
  by_cases k5 : k = 5
  · subst k5
    have e : parted (ord d) 5 l = ascL (ord d) (sel 1 l) := by
      unfold parted countOK headL ascOK
      cases l with
      | nil => simp [sel]
      | cons a l => simp [headOK_ne (k := 5) (by decide) (by decide) (by decide) a, sel]
    rw [e]
    clear hn hw hp hs hr hk hk39 e
    go_enter Tryz.func84, Tryz.ntmps84
    go_wp2_with fail
    refine (HA1.out _ (unhide HR)).mono ?_
    rintro e w4 ⟨rfl, hb⟩
    have HB := hide hb
    clear hb
    go_wp2_with fail
    go_ret
    exact ⟨rfl, unhide HB⟩
  by_cases k6 : k = 6
  · subst k6
    have e : parted (ord d) 6 l = (decide (n % 2 = 0) && ascL (ord d) (sel 2 l)) := by
      unfold parted countOK headL ascOK
      rw [l1]
      cases l with
      | nil => simp [sel]
      | cons a l => simp [headOK_ne (k := 6) (by decide) (by decide) (by decide) a, sel]
    rw [e]
    clear hn hw hp hs hr hk hk39 e
    by_cases h2 : n % 2 = 0
    · have g7 : ((n : Int) % 2 == 0) = true := by rw [beq_iff_eq]; omega
      have h3 : (n : Int) % 2 = 0 := by omega
      go_enter Tryz.func84, Tryz.ntmps84
      go_wp2_with fail
      refine (HA2.out _ (unhide HR)).mono ?_
      rintro e w4 ⟨rfl, hb⟩
      have HB := hide hb
      clear hb
      go_wp2_with fail
      go_ret
      exact ⟨ret_b (by simp [h2]), unhide HB⟩
    · have g7 : ((n : Int) % 2 == 0) = false := beq_eq_false_iff_ne.2 (by omega)
      have h3 : ¬ (n : Int) % 2 = 0 := by omega
      go_enter Tryz.func84, Tryz.ntmps84
      go_wp2_with fail
      go_ret
      exact ⟨ret_b (by simp; omega), Below.refl _ _⟩
  by_cases k4 : k = 4
  · subst k4
    have e : parted (ord d) 4 l = true := by
      unfold parted countOK headL ascOK
      cases l with
      | nil => simp
      | cons a l => simp [headOK_ne (k := 4) (by decide) (by decide) (by decide) a]
    rw [e]
    clear hn hw hp hs hr hk hk39 e
    go_enter Tryz.func84, Tryz.ntmps84
    go_wp2_with fail
    go_ret
    exact ⟨rfl, Below.refl _ _⟩
  have hk789 : k = 7 ∨ k = 8 ∨ k = 9 := by
    have h3 : k.toNat ≠ 3 := fun q => k3 (UInt8.toNat_inj.1 q)
    have h4 : k.toNat ≠ 4 := fun q => k4 (UInt8.toNat_inj.1 q)
    have h5 : k.toNat ≠ 5 := fun q => k5 (UInt8.toNat_inj.1 q)
    have h6 : k.toNat ≠ 6 := fun q => k6 (UInt8.toNat_inj.1 q)
    have : k.toNat = 7 ∨ k.toNat = 8 ∨ k.toNat = 9 := by omega
    rcases this with h | h | h
    · exact .inl (UInt8.toNat_inj.1 h)
    · exact .inr (.inl (UInt8.toNat_inj.1 h))
    · exact .inr (.inr (UInt8.toNat_inj.1 h))
  clear k3 k4 k5 k6 hk39 HA1 HA2
  cases l with
  | nil =>
    simp at l1
    subst l1
    rcases hk789 with rfl | rfl | rfl
    all_goals
      clear hn hw hp hs hr hk
      go_enter Tryz.func84, Tryz.ntmps84
      go_wp2_with fail
      all_goals
        go_ret
        exact ⟨rfl, Below.refl _ _⟩
  | cons a l =>
    obtain ⟨u, hu⟩ : ∃ u, ps[0]? = some u := ⟨ps[0]'(by simp at l1; omega), List.getElem?_eq_getElem _⟩
    have hwa : wf d a = true := by simp only [List.all_cons, Bool.and_eq_true] at hw; exact hw.1
    have hua := part_at hp (i := 0) rfl hu
    have hzu := hs u (List.mem_of_getElem? hu)
    obtain ⟨hu0, k0⟩ := enc_first (r := []) hwa (by rw [hua, List.append_nil])
    have e1 : u[0] = a.kind := by rw [bs_get u 0 hu0] at k0; exact Option.some.inj k0
    have wk : wrap64 (a.kind.toNat : Int) = (a.kind.toNat : Int) := IntWalk.wrap64_in _ (by have := a.kind.toNat_lt; omega)
    have HSM := Lib.hid (fun lo hi w => small_any d u a lo hi hwa hua hzu w)
    obtain ⟨b5, o5, hA1, hb5, hc5⟩ := at1s hr (i := 0) (u := .string u) (by rw [List.getElem?_map, hu]; rfl)
    subst hA1
    rw [Nat.add_zero] at hc5
    have hn0 : 1 ≤ n := by simp at l1; omega
    have hl1 : (a :: l).length = n := l1
    clear l1 hn hw hp hs hr hk hu k0 HR
    rcases hk789 with rfl | rfl | rfl
    · have e : parted (ord d) 7 (a :: l) = (decide (n ≤ 9) && headOK 7 a) := by
        unfold parted countOK headL ascOK
        rw [hl1]
        simp [hn0]
      rw [e]
      clear e hl1 HSM
      by_cases h9 : n ≤ 9
      · go_enter Tryz.func84, Tryz.ntmps84
        go_wp2_with fail
        go_ret
        exact ⟨ret_b (by rw [head7 hwa, decide_eq_true h9]; rfl), Below.refl _ _⟩
      · go_enter Tryz.func84, Tryz.ntmps84
        go_wp2_with fail
        go_ret
        exact ⟨ret_b (by have : decide (n ≤ 9) = false := decide_eq_false (by omega)
                         simp [this]), Below.refl _ _⟩
    · have e : parted (ord d) 8 (a :: l) = (decide (n ≤ 33) && smallV 0 65535 a) := by
        have : headOK 8 a = smallV 0 65535 a := by cases a <;> simp [headOK, smallV]
        unfold parted countOK headL ascOK
        rw [hl1, ← this]
        simp [hn0]
      rw [e]
      clear e hl1
      by_cases h33 : n ≤ 33
      · go_enter Tryz.func84, Tryz.ntmps84
        go_wp2_with fail
        refine (HSM.out 0 65535 _).mono ?_
        rintro e w4 ⟨rfl, rfl⟩
        go_wp2_with fail
        go_ret
        exact ⟨ret_b (by simp [h33]), Below.refl _ _⟩
      · go_enter Tryz.func84, Tryz.ntmps84
        go_wp2_with fail
        go_ret
        exact ⟨ret_b (by have : decide (n ≤ 33) = false := decide_eq_false (by omega)
                         simp [this]), Below.refl _ _⟩
    · have e : parted (ord d) 9 (a :: l) = smallV 1 21 a := by
        have : headOK 9 a = smallV 1 21 a := by cases a <;> simp [headOK, smallV]
        unfold parted countOK headL ascOK
        rw [hl1, ← this]
        simp [hn0]
      rw [e]
      clear e hl1
      go_enter Tryz.func84, Tryz.ntmps84
      go_wp2_with fail
      refine (HSM.out 1 21 _).mono ?_
      rintro e w4 ⟨rfl, rfl⟩
      go_wp2_with fail
      go_ret
      exact ⟨rfl, Below.refl _ _⟩

/-- the reference's walk with its check is the model's reading -/
theorem walk_checked (d : Nat) (h : d ≤ 33) : WkCon true d := by
  induction d with
  | zero => exact walk_zero true
  | succ d ih => exact walk_up true d (by omega) (ih (by omega)) (fun _ => parted_any d (by omega))

end Go.Proofs.YtdifpemohdnolaaGreat
namespace Go.Proofs.YtdifpemohdnolaaGreat
open Go.RowKit VM

set_option maxRecDepth 100000 in
set_option maxHeartbeats 3200000 in
theorem read_any (d : Nat) (h : d ≤ 33) (s : ByteArray) (w : World) (hb : s.size ≤ 1048576) :
    Calls Tryz.prog 50 #[.string s, .int .i64 (d : Int)] w (WkPost (dec d (bs s)) s.size d w) := by
  have HC := Lib.hid (fun w => walk_checked d h s w hb)
  rw [decC_true] at HC
  generalize dec d (bs s) = o at *
  go_enter Tryz.func50, Tryz.ntmps50
  go_wp2_with fail
  refine (HC.out _).mono ?_
  rintro e w3 hW
  cases o with
  | none =>
    obtain ⟨rfl, hb3⟩ := hW
    have HB := hide hb3
    clear hb3
    go_wp2_with fail
    go_ret3
    exact ⟨rfl, unhide HB⟩
  | some q =>
    obtain ⟨v, r⟩ := q
    obtain ⟨A4, c4, ps4, dd4, rfl, hdd4, hown4, hp4, hb3⟩ := hW
    have HB := hide hb3
    have HO := hide hown4
    have HP := Lib.hid hp4
    clear hb3 hown4 hp4
    go_wp2_with fail
    go_ret3
    exact ⟨A4, c4, ps4, dd4, rfl, hdd4, unhide HO, HP.out, unhide HB⟩
set_option maxRecDepth 100000 in
set_option maxHeartbeats 3200000 in
theorem rvalid_any (s : ByteArray) (hb : s.size ≤ 281474976710656) (w : World) :
    Calls Tryz.prog 24 #[.string s] w fun e w' => e = .returned (.bool (valB 32 s)) ∧ Below w.heap.size w w' := by
  by_cases h : s.size ≤ 131072
  · have HC := Lib.hid (fun w => read_any 32 (by decide) s w (by omega))
    cases hd : dec 32 (bs s) with
    | none =>
      have hv : valB 32 s = false := by unfold valB; rw [hd]; simp
      rw [hv]
      rw [hd] at HC
      clear hd hv
      go_enter Tryz.func24, Tryz.ntmps24
      go_wp2_with fail
      refine (HC.out _).mono ?_
      rintro e w3 hW
      obtain ⟨rfl, hb3⟩ := hW
      have HB := hide hb3
      clear hb3
      go_wp2_with fail
      go_ret
      exact ⟨rfl, unhide HB⟩
    | some q =>
      obtain ⟨v, r⟩ := q
      obtain ⟨g1, g2⟩ := dec_ok 32 _ _ _ hd
      have hv0 := enc_pos v g2
      have hlen := congrArg List.length g1
      rw [bs_size, List.length_append] at hlen
      have hv : valB 32 s = (((s.size - r.length : Nat) : Int) == (s.size : Int)) := by
        have := valB_end (d := 32) (s := s)
        unfold valB
        rw [← this, hd, decide_eq_true h]
        rfl
      rw [hv]
      rw [hd] at HC
      obtain ⟨z, hz⟩ : ∃ z, z = s.size - r.length := ⟨_, rfl⟩
      rw [← hz]
      have hz0 : 0 < z := by omega
      clear hd hv g1 g2 hlen hv0
      go_enter Tryz.func24, Tryz.ntmps24
      go_wp2_with fail
      refine (HC.out _).mono ?_
      rintro e w3 hW
      obtain ⟨A4, c4, ps4, dd4, rfl, -, -, -, hb3⟩ := hW
      have HB := hide hb3
      rw [← hz]
      clear hb3 hz
      go_wp2_with fail
      go_ret
      exact ⟨rfl, unhide HB⟩
  · have hv : valB 32 s = false := by unfold valB; rw [decide_eq_false h]; rfl
    rw [hv]
    clear hv
    go_enter Tryz.func24, Tryz.ntmps24
    go_wp2_with fail
    go_ret
    exact ⟨rfl, Below.refl _ _⟩
set_option maxHeartbeats 800000 in
theorem checked_any (s : ByteArray) (hb : s.size ≤ 281474976710656) (w : World) :
    Calls Tryz.prog 65 #[.string s] w fun e w' => e = .returned (.string (if valB 32 s = true then s else ⟨#[]⟩)) ∧ Below w.heap.size w w' := by
  have HC := Lib.hid (fun w => rvalid_any s hb w)
  generalize valB 32 s = z at *
  go_enter Tryz.func65, Tryz.ntmps65
  go_wp2_with fail
  refine (HC.out _).mono ?_
  rintro e w3 ⟨rfl, hb3⟩
  have HB := hide hb3
  clear hb3
  cases z
  all_goals
    go_wp2_with fail
    go_ret
    exact ⟨rfl, unhide HB⟩

end Go.Proofs.YtdifpemohdnolaaGreat
namespace Go.Proofs.YtdifpemohdnolaaGreat
open Go.RowKit VM

theorem bl_self : ∀ x : List UInt8, Op.bytesLess x x = false := by
  intro x
  induction x with
  | nil => rfl
  | cons a x ih => simp [Op.bytesLess, ih]
set_option linter.unusedSimpArgs false in
set_option maxRecDepth 100000 in
set_option maxHeartbeats 3200000 in
theorem rcompare_any (s t : ByteArray) (hs : s.size ≤ 281474976710656) (ht : t.size ≤ 281474976710656) (w : World) :
    Calls Tryz.prog 53 #[.string s, .string t] w fun e w' => e = .returned (.int .i64 (cmpM s t)) ∧ Below w.heap.size w w' := by
  have HV1 := Lib.hid (fun w => rvalid_any s hs w)
  have HV2 := Lib.hid (fun w => rvalid_any t ht w)
  cases h1 : valB 32 s with
  | true =>
    rw [h1] at HV1
    cases h2 : valB 32 t with
    | true =>
      rw [h2] at HV2
      obtain ⟨a1, a2, a3⟩ := tree_ok h1
      obtain ⟨b1, b2, b3⟩ := tree_ok h2
      have hz : cmpM s t = ord 32 (treeB s) (treeB t) := by
        by_cases he : s = t
        · subst he; rw [cmpM_self, ord_self a1]
        · unfold cmpM; rw [if_neg he, if_pos h1, if_pos h2]
      have HC := Lib.hid (fun w => or_any 32 (by decide) s t (treeB s) (treeB t) a1 b1 a2 b2 (by omega) (by omega) w)
      rw [hz]
      clear hz a1 a2 b1 b2 h1 h2
      generalize ord 32 (treeB s) (treeB t) = z at *
      go_enter Tryz.func53, Tryz.ntmps53
      go_wp2_with fail
      refine (HV1.out _).mono ?_
      rintro e w1 ⟨rfl, hb1⟩
      have HB1 := hide hb1
      clear hb1
      go_wp2_with fail
      refine (HV2.out _).mono ?_
      rintro e w2 ⟨rfl, hb2⟩
      have HB2 := hide ((unhide HB1).trans (hb2.mono (unhide HB1).size))
      clear hb2
      go_wp2_with fail
      refine (HC.out _).mono ?_
      rintro e w3 ⟨rfl, hb3⟩
      have HB3 := hide ((unhide HB2).trans (hb3.mono (unhide HB2).size))
      clear hb3
      go_wp2_with fail
      go_ret
      exact ⟨rfl, unhide HB3⟩
    | false =>
      rw [h2] at HV2
      have he : s ≠ t := by rintro rfl; rw [h1] at h2; cases h2
      have hz : cmpM s t = 1 := by unfold cmpM; rw [if_neg he, if_pos h1, if_neg (by rw [h2]; simp)]
      rw [hz]
      clear hz he h1 h2
      go_enter Tryz.func53, Tryz.ntmps53
      go_wp2_with fail
      refine (HV1.out _).mono ?_
      rintro e w1 ⟨rfl, hb1⟩
      have HB1 := hide hb1
      clear hb1
      go_wp2_with fail
      refine (HV2.out _).mono ?_
      rintro e w2 ⟨rfl, hb2⟩
      have HB2 := hide ((unhide HB1).trans (hb2.mono (unhide HB1).size))
      clear hb2
      go_wp2_with fail
      refine (rsign_any _ _ _).mono ?_
      rintro e w3 ⟨rfl, rfl⟩
      go_wp2_with fail
      go_ret
      exact ⟨rfl, unhide HB2⟩
  | false =>
    rw [h1] at HV1
    cases h2 : valB 32 t with
    | true =>
      rw [h2] at HV2
      have he : s ≠ t := by rintro rfl; rw [h1] at h2; cases h2
      have hz : cmpM s t = -1 := by unfold cmpM; rw [if_neg he, if_neg (by rw [h1]; simp), if_pos h2]
      rw [hz]
      clear hz he h1 h2
      go_enter Tryz.func53, Tryz.ntmps53
      go_wp2_with fail
      refine (HV1.out _).mono ?_
      rintro e w1 ⟨rfl, hb1⟩
      have HB1 := hide hb1
      clear hb1
      go_wp2_with fail
      refine (HV2.out _).mono ?_
      rintro e w2 ⟨rfl, hb2⟩
      have HB2 := hide ((unhide HB1).trans (hb2.mono (unhide HB1).size))
      clear hb2
      go_wp2_with fail
      refine (rsign_any _ _ _).mono ?_
      rintro e w3 ⟨rfl, rfl⟩
      go_wp2_with fail
      go_ret
      exact ⟨rfl, unhide HB2⟩
    | false =>
      rw [h2] at HV2
      have hz : ∃ p q, Op.bytesLess s.toList t.toList = p ∧ (s.toList == t.toList) = q ∧ cmpM s t = if p = true then -1 else if q = false then 1 else 0 := by
        refine ⟨_, _, rfl, rfl, ?_⟩
        by_cases he : s = t
        · subst he
          rw [cmpM_self, bl_self, show (s.toList == s.toList) = true from beq_self_eq_true _]
          rfl
        · rw [ne_list he]
          unfold cmpM lessS
          rw [if_neg he, if_neg (by rw [h1]; simp), if_neg (by rw [h2]; simp)]
          rfl
      obtain ⟨p, q, g1, g2, hz⟩ := hz
      rw [hz]
      clear hz h1 h2
      cases p <;> cases q
      all_goals
        go_enter Tryz.func53, Tryz.ntmps53
        go_wp2_with fail
        refine (HV1.out _).mono ?_
        rintro e w1 ⟨rfl, hb1⟩
        have HB1 := hide hb1
        clear hb1
        go_wp2_with fail
        refine (HV2.out _).mono ?_
        rintro e w2 ⟨rfl, hb2⟩
        have HB2 := hide ((unhide HB1).trans (hb2.mono (unhide HB1).size))
        clear hb2
        go_wp2_with fail
        refine (rsign_any _ _ _).mono ?_
        rintro e w3 ⟨rfl, rfl⟩
        go_wp2_with fail
        go_ret
        exact ⟨rfl, unhide HB2⟩

end Go.Proofs.YtdifpemohdnolaaGreat
