/- help.SameTypes at equal lists. Condition: at most 512 bindings, each type at most 512 nodes. -/
-- by tools/gen_same.py
import Derived.Test.YtcnanbmbdajcaaaDoorTyY6
import Derived.Test.YtcnanbmbdajcaaaDoorTyN
import Derived.Deep.RegionHeld3
namespace Go.Proofs.YtcnanbmbdajcaaaDoor
open Go.RowKit M

/-- what a match has found are valid types -/
theorem found_small {ts us : List TN} {bs : List BS} (h1 : matM ts us = true → Rep (bs.map mb) (finE ts us noE)) (h2 : matM ts us = false → bs = []) : ∀ b ∈ bs, b.2.2.2.length ≤ 512 := by
  intro b hb
  cases hm : matM ts us
  · rw [h2 hm] at hb; simp at hb
  · have hr := h1 hm
    unfold matM at hm
    rw [Bool.and_eq_true, Bool.and_eq_true] at hm
    obtain ⟨hp, hv, ht⟩ := hm
    have hlk : finE ts us noE b.1 = some b.2.2.2 := by
      rw [← hr.says]
      have : ∀ l : List Bd, l.Pairwise (fun a b => a.1 < b.1) → mb b ∈ l → lk l b.1 = some b.2.2.2 := by
        intro l
        induction l with
        | nil => intro _ h; simp at h
        | cons c l ih =>
          intro ha h
          obtain ⟨k1, k2⟩ := List.pairwise_cons.1 ha
          rw [lk_cons]
          rcases List.mem_cons.1 h with rfl | h
          · rw [if_pos rfl]
          · rw [if_neg (by have := k1 (mb b) h; simp only at this; omega)]; exact ih k2 h
      exact this _ hr.asc (List.mem_map_of_mem hb)
    exact valT_len (finE_valid hv ts us noE 1 0 (by simp) (leaves_valid hp) (full_valid hp) (full_valid hv) ht (fun k y hy => by cases hy) b.1 b.2.2.2 hlk)
theorem found_same {ts us : List TN} {bs bs' : List BS} (h1 : matM ts us = true → Rep (bs.map mb) (finE ts us noE)) (h2 : matM ts us = false → bs = []) (h1' : matM ts us = true → Rep (bs'.map mb) (finE ts us noE)) (h2' : matM ts us = false → bs' = []) : bs.map mb = bs'.map mb := by
  cases hm : matM ts us
  · rw [h2 hm, h2' hm]
  · exact rep_unique (h1 hm) (h1' hm)

set_option linter.unusedSimpArgs false in
set_option maxRecDepth 100000 in
set_option maxHeartbeats 6400000 in
theorem same_any (w : World) (A1 : Option Addr) (n1 c1 : Nat) (bs : List BS) (A2 : Option Addr) (n2 c2 : Nat) (bs' : List BS) (hn1 : n1 = bs.length) (hn2 : n2 = bs'.length) (hl : n1 ≤ 512) (h : bs.map mb = bs'.map mb) (hs : ∀ b ∈ bs, b.2.2.2.length ≤ 512) (h1 : InB w A1 bs) (h2 : InB w A2 bs') :
    Calls Tryd.prog 22 #[.slice A1 n1 c1, .slice A2 n2 c2] w fun e w' => e = .returned (.bool true) ∧ Below w.heap.size w w' := by
  have H1 := hide h1
  have H2 := hide h2
  have HN1 := Lib.hid hn1
  have HH := Lib.hid h
  have HSM := Lib.hid hs
  obtain rfl : n2 = n1 := by rw [hn1, hn2]; have := congrArg List.length h; simpa using this.symm
  clear h1 h2 hn1 hn2 h hs
  go_enter Tryd.func22, Tryd.ntmps22
  go_wp2_with fail
  go_loopw [5] (fun t wr => ∃ k : Nat, k ≤ n2 ∧ t = .int .i64 k ∧ Hid (Below w.heap.size w wr)) (fun t _ => n2 - (intOf t).toNat)
  case atStart => exact ⟨0, by omega, rfl, Below.refl _ _⟩
  case round =>
    obtain ⟨k, hk, rfl, hB⟩ := hrel
    by_cases hlt : k < n2
    · obtain ⟨x, hx⟩ : ∃ x, bs[k]? = some x := ⟨bs[k]'(by rw [← HN1.out]; exact hlt), List.getElem?_eq_getElem _⟩
      obtain ⟨y, hy, hxy⟩ : ∃ y, bs'[k]? = some y ∧ mb x = mb y := by
        have := congrArg (fun l => l[k]?) HH.out
        simp only [List.getElem?_map, hx, Option.map_some] at this
        cases hy : bs'[k]? with
        | none => rw [hy] at this; cases this
        | some y => rw [hy] at this; exact ⟨y, rfl, by simpa using this⟩
      have h1 := (unhide H1).below hB.out
      have h2 := (unhide H2).below hB.out
      obtain ⟨b5, o5, rfl, hb5, z0, z1⟩ := h1.at_ hx
      obtain ⟨b6, o6, rfl, hb6, z2, z3⟩ := h2.at_ hy
      have HIX := hide (h1.2 x (List.mem_of_getElem? hx)).1
      have HIY := hide (h2.2 y (List.mem_of_getElem? hy)).1
      have hx5 := HSM.out x (List.mem_of_getElem? hx)
      obtain ⟨v, xA, xc, xs⟩ := x
      obtain ⟨v', yA, yc, ys⟩ := y
      obtain ⟨rfl, rfl⟩ : v = v' ∧ xs = ys := ⟨congrArg (fun q => q.1) hxy, congrArg (fun q => q.2) hxy⟩
      simp only at z0 z1 z2 z3 hx5
      have g1 : (v == v) = true := beq_self_eq_true _
      clear hx hy hxy h1 h2
      go_wp2_with fail
      have fd0 : Hid (wr.drew.cell? ⟨b5, o5 + k * 2, none⟩ = some (.int .i64 v)) := z0
      have fd1 : Hid (wr.drew.cell? ⟨b5, o5 + k * 2 + 1, none⟩ = some (.slice xA xs.length xc)) := z1
      have fd2 : Hid (wr.drew.cell? ⟨b6, o6 + k * 2, none⟩ = some (.int .i64 v)) := z2
      have fd3 : Hid (wr.drew.cell? ⟨b6, o6 + k * 2 + 1, none⟩ = some (.slice yA xs.length yc)) := z3
      have HBd : Hid (Below w.heap.size w wr.drew) := below_drew hB.out
      have HXd : Hid (InC wr.drew xA (xs.flatMap ndCells)) := (unhide HIX).drew
      have HYd : Hid (InC wr.drew yA (xs.flatMap ndCells)) := (unhide HIY).drew
      refine wp_region_noPanic ?_
      refine wp_region_held_drew (S := fun W => W.cell? ⟨b5, o5 + k * 2, none⟩ = some (.int .i64 v) ∧ W.cell? ⟨b5, o5 + k * 2 + 1, none⟩ = some (.slice xA xs.length xc) ∧ W.cell? ⟨b6, o6 + k * 2, none⟩ = some (.int .i64 v) ∧ W.cell? ⟨b6, o6 + k * 2 + 1, none⟩ = some (.slice yA xs.length yc)) (by kernel_rfl) ⟨fd0, fd1, fd2, fd3⟩ (fun _ => ?_)
      generalize wr.drew = wd at *
      try simp only [Act.put, List.setIfInBounds_toArray, List.set_cons_zero, List.set_cons_succ]
      refine wpAnyH_take (i := 0) (oi := { dst := some 17, op := Op.move (Operand.tmp 0), type := 38, pos := "help.go:80", after := #[], guard := none }) (v := ?_) rfl (by kernel_rfl) (by kernel_rfl) (by kernel_rfl) (fun _ _ _ h => h) (Or.inl ⟨by rfl, ?_⟩) ⟨fd0, fd1, fd2, fd3⟩ ?_
      rotate_left 1
      · intro w hSw
        obtain ⟨hSw0, hSw1, hSw2, hSw3⟩ := hSw
        go_simp
        first
          | done
          | with_reducible rfl
          | rw [if_neg (by omega)]
      try simp only [Act.put, List.setIfInBounds_toArray, List.set_cons_zero, List.set_cons_succ]
      refine wpAnyH_take (i := 1) (oi := { dst := some 18, op := Op.move (Operand.tmp 5), type := 3, pos := "help.go:80", after := #[], guard := none }) (v := ?_) rfl (by kernel_rfl) (by kernel_rfl) (by kernel_rfl) (fun _ _ _ h => h) (Or.inl ⟨by rfl, ?_⟩) ⟨fd0, fd1, fd2, fd3⟩ ?_
      rotate_left 1
      · intro w hSw
        obtain ⟨hSw0, hSw1, hSw2, hSw3⟩ := hSw
        go_simp
        first
          | done
          | with_reducible rfl
          | rw [if_neg (by omega)]
      try simp only [Act.put, List.setIfInBounds_toArray, List.set_cons_zero, List.set_cons_succ]
      refine wpAnyH_take (i := 2) (oi := { dst := some 19, op := Op.indexAddr 38 (Operand.tmp 17) (Operand.tmp 18), type := 0, pos := "help.go:80", after := #[{ on := 0, ground := Ground.data }, { on := 1, ground := Ground.data }], guard := none }) (v := .pointer (some ⟨b5, o5 + k * 2, none⟩)) rfl (by kernel_rfl) (by kernel_rfl) (by kernel_rfl) (fun _ _ _ h => h) (Or.inl ⟨by rfl, ?_⟩) ⟨fd0, fd1, fd2, fd3⟩ ?_
      · intro w hSw
        go_simp
        first | done | (intro hc; omega) | rw [if_pos (by omega)]
      try simp only [Act.put, List.setIfInBounds_toArray, List.set_cons_zero, List.set_cons_succ]
      refine wpAnyH_take (i := 3) (oi := { dst := some 20, op := Op.fieldAddr 43 (Operand.tmp 19) 0, type := 0, pos := "help.go:80", after := #[{ on := 2, ground := Ground.data }], guard := none }) (v := ?_) rfl (by kernel_rfl) (by kernel_rfl) (by kernel_rfl) (fun _ _ _ h => h) (Or.inl ⟨by rfl, ?_⟩) ⟨fd0, fd1, fd2, fd3⟩ ?_
      rotate_left 1
      · intro w hSw
        obtain ⟨hSw0, hSw1, hSw2, hSw3⟩ := hSw
        go_simp
        first
          | done
          | with_reducible rfl
          | rw [if_neg (by omega)]
      try simp only [Act.put, List.setIfInBounds_toArray, List.set_cons_zero, List.set_cons_succ]
      refine wpAnyH_take (i := 4) (oi := { dst := some 21, op := Op.load 3 (Operand.tmp 20), type := 3, pos := "help.go:80", after := #[{ on := 3, ground := Ground.data }], guard := none }) (v := ?_) rfl (by kernel_rfl) (by kernel_rfl) (by kernel_rfl) (fun _ _ _ h => h) (Or.inl ⟨by rfl, ?_⟩) ⟨fd0, fd1, fd2, fd3⟩ ?_
      rotate_left 1
      · intro w hSw
        obtain ⟨hSw0, hSw1, hSw2, hSw3⟩ := hSw
        go_simp
        first
          | done
          | with_reducible rfl
          | rw [if_neg (by omega)]
      try simp only [Act.put, List.setIfInBounds_toArray, List.set_cons_zero, List.set_cons_succ]
      refine wpAnyH_take (i := 5) (oi := { dst := some 22, op := Op.move (Operand.tmp 1), type := 38, pos := "help.go:80", after := #[], guard := none }) (v := ?_) rfl (by kernel_rfl) (by kernel_rfl) (by kernel_rfl) (fun _ _ _ h => h) (Or.inl ⟨by rfl, ?_⟩) ⟨fd0, fd1, fd2, fd3⟩ ?_
      rotate_left 1
      · intro w hSw
        obtain ⟨hSw0, hSw1, hSw2, hSw3⟩ := hSw
        go_simp
        first
          | done
          | with_reducible rfl
          | rw [if_neg (by omega)]
      try simp only [Act.put, List.setIfInBounds_toArray, List.set_cons_zero, List.set_cons_succ]
      refine wpAnyH_take (i := 6) (oi := { dst := some 23, op := Op.move (Operand.tmp 5), type := 3, pos := "help.go:80", after := #[], guard := none }) (v := ?_) rfl (by kernel_rfl) (by kernel_rfl) (by kernel_rfl) (fun _ _ _ h => h) (Or.inl ⟨by rfl, ?_⟩) ⟨fd0, fd1, fd2, fd3⟩ ?_
      rotate_left 1
      · intro w hSw
        obtain ⟨hSw0, hSw1, hSw2, hSw3⟩ := hSw
        go_simp
        first
          | done
          | with_reducible rfl
          | rw [if_neg (by omega)]
      try simp only [Act.put, List.setIfInBounds_toArray, List.set_cons_zero, List.set_cons_succ]
      refine wpAnyH_take (i := 7) (oi := { dst := some 24, op := Op.indexAddr 38 (Operand.tmp 22) (Operand.tmp 23), type := 0, pos := "help.go:80", after := #[{ on := 5, ground := Ground.data }, { on := 6, ground := Ground.data }], guard := none }) (v := .pointer (some ⟨b6, o6 + k * 2, none⟩)) rfl (by kernel_rfl) (by kernel_rfl) (by kernel_rfl) (fun _ _ _ h => h) (Or.inl ⟨by rfl, ?_⟩) ⟨fd0, fd1, fd2, fd3⟩ ?_
      · intro w hSw
        go_simp
        first | done | (intro hc; omega) | rw [if_pos (by omega)]
      try simp only [Act.put, List.setIfInBounds_toArray, List.set_cons_zero, List.set_cons_succ]
      refine wpAnyH_take (i := 8) (oi := { dst := some 25, op := Op.fieldAddr 43 (Operand.tmp 24) 0, type := 0, pos := "help.go:80", after := #[{ on := 7, ground := Ground.data }], guard := none }) (v := ?_) rfl (by kernel_rfl) (by kernel_rfl) (by kernel_rfl) (fun _ _ _ h => h) (Or.inl ⟨by rfl, ?_⟩) ⟨fd0, fd1, fd2, fd3⟩ ?_
      rotate_left 1
      · intro w hSw
        obtain ⟨hSw0, hSw1, hSw2, hSw3⟩ := hSw
        go_simp
        first
          | done
          | with_reducible rfl
          | rw [if_neg (by omega)]
      try simp only [Act.put, List.setIfInBounds_toArray, List.set_cons_zero, List.set_cons_succ]
      refine wpAnyH_take (i := 9) (oi := { dst := some 26, op := Op.load 3 (Operand.tmp 25), type := 3, pos := "help.go:80", after := #[{ on := 8, ground := Ground.data }], guard := none }) (v := ?_) rfl (by kernel_rfl) (by kernel_rfl) (by kernel_rfl) (fun _ _ _ h => h) (Or.inl ⟨by rfl, ?_⟩) ⟨fd0, fd1, fd2, fd3⟩ ?_
      rotate_left 1
      · intro w hSw
        obtain ⟨hSw0, hSw1, hSw2, hSw3⟩ := hSw
        go_simp
        first
          | done
          | with_reducible rfl
          | rw [if_neg (by omega)]
      try simp only [Act.put, List.setIfInBounds_toArray, List.set_cons_zero, List.set_cons_succ]
      refine wpAnyH_take (i := 10) (oi := { dst := some 27, op := Op.binOp BinOp.neq 3 (Operand.tmp 21) (Operand.tmp 26) 3, type := 4, pos := "help.go:80", after := #[{ on := 4, ground := Ground.data }, { on := 9, ground := Ground.data }], guard := none }) (v := ?_) rfl (by kernel_rfl) (by kernel_rfl) (by kernel_rfl) (fun _ _ _ h => h) (Or.inl ⟨by rfl, ?_⟩) ⟨fd0, fd1, fd2, fd3⟩ ?_
      rotate_left 1
      · intro w hSw
        obtain ⟨hSw0, hSw1, hSw2, hSw3⟩ := hSw
        go_simp
        first
          | done
          | with_reducible rfl
          | rw [if_neg (by omega)]
      try simp only [Act.put, List.setIfInBounds_toArray, List.set_cons_zero, List.set_cons_succ]
      refine wpAnyH_take (i := 11) (oi := { dst := some 28, op := Op.move (Operand.tmp 27), type := 4, pos := "help.go:80", after := #[{ on := 10, ground := Ground.data }], guard := none }) (v := ?_) rfl (by kernel_rfl) (by kernel_rfl) (by kernel_rfl) (fun _ _ _ h => h) (Or.inl ⟨by rfl, ?_⟩) ⟨fd0, fd1, fd2, fd3⟩ ?_
      rotate_left 1
      · intro w hSw
        obtain ⟨hSw0, hSw1, hSw2, hSw3⟩ := hSw
        go_simp
        first
          | done
          | with_reducible rfl
          | rw [if_neg (by omega)]
      try simp only [Act.put, List.setIfInBounds_toArray, List.set_cons_zero, List.set_cons_succ]
      refine wpAnyH_take (i := 12) (oi := { dst := some 29, op := Op.move (Operand.tmp 0), type := 38, pos := "help.go:80", after := #[{ on := 11, ground := Ground.guard }], guard := some (11, false) }) (v := ?_) rfl (by kernel_rfl) (by kernel_rfl) (by kernel_rfl) (fun _ _ _ h => h) (Or.inl ⟨by rfl, ?_⟩) ⟨fd0, fd1, fd2, fd3⟩ ?_
      rotate_left 1
      · intro w hSw
        obtain ⟨hSw0, hSw1, hSw2, hSw3⟩ := hSw
        go_simp
        first
          | done
          | with_reducible rfl
          | rw [if_neg (by omega)]
      try simp only [Act.put, List.setIfInBounds_toArray, List.set_cons_zero, List.set_cons_succ]
      refine wpAnyH_take (i := 13) (oi := { dst := some 30, op := Op.move (Operand.tmp 5), type := 3, pos := "help.go:80", after := #[{ on := 11, ground := Ground.guard }], guard := some (11, false) }) (v := ?_) rfl (by kernel_rfl) (by kernel_rfl) (by kernel_rfl) (fun _ _ _ h => h) (Or.inl ⟨by rfl, ?_⟩) ⟨fd0, fd1, fd2, fd3⟩ ?_
      rotate_left 1
      · intro w hSw
        obtain ⟨hSw0, hSw1, hSw2, hSw3⟩ := hSw
        go_simp
        first
          | done
          | with_reducible rfl
          | rw [if_neg (by omega)]
      try simp only [Act.put, List.setIfInBounds_toArray, List.set_cons_zero, List.set_cons_succ]
      refine wpAnyH_take (i := 14) (oi := { dst := some 31, op := Op.indexAddr 38 (Operand.tmp 29) (Operand.tmp 30), type := 0, pos := "help.go:80", after := #[{ on := 12, ground := Ground.data }, { on := 13, ground := Ground.data }, { on := 11, ground := Ground.guard }], guard := some (11, false) }) (v := .pointer (some ⟨b5, o5 + k * 2, none⟩)) rfl (by kernel_rfl) (by kernel_rfl) (by kernel_rfl) (fun _ _ _ h => h) (Or.inl ⟨by rfl, ?_⟩) ⟨fd0, fd1, fd2, fd3⟩ ?_
      · intro w hSw
        go_simp
        first | done | (intro hc; omega) | rw [if_pos (by omega)]
      try simp only [Act.put, List.setIfInBounds_toArray, List.set_cons_zero, List.set_cons_succ]
      refine wpAnyH_take (i := 15) (oi := { dst := some 32, op := Op.fieldAddr 43 (Operand.tmp 31) 1, type := 0, pos := "help.go:80", after := #[{ on := 14, ground := Ground.data }, { on := 11, ground := Ground.guard }], guard := some (11, false) }) (v := ?_) rfl (by kernel_rfl) (by kernel_rfl) (by kernel_rfl) (fun _ _ _ h => h) (Or.inl ⟨by rfl, ?_⟩) ⟨fd0, fd1, fd2, fd3⟩ ?_
      rotate_left 1
      · intro w hSw
        obtain ⟨hSw0, hSw1, hSw2, hSw3⟩ := hSw
        go_simp
        first
          | done
          | with_reducible rfl
          | rw [if_neg (by omega)]
      try simp only [Act.put, List.setIfInBounds_toArray, List.set_cons_zero, List.set_cons_succ]
      refine wpAnyH_take (i := 16) (oi := { dst := some 33, op := Op.load 22 (Operand.tmp 32), type := 22, pos := "help.go:80", after := #[{ on := 15, ground := Ground.data }, { on := 11, ground := Ground.guard }], guard := some (11, false) }) (v := ?_) rfl (by kernel_rfl) (by kernel_rfl) (by kernel_rfl) (fun _ _ _ h => h) (Or.inl ⟨by rfl, ?_⟩) ⟨fd0, fd1, fd2, fd3⟩ ?_
      rotate_left 1
      · intro w hSw
        obtain ⟨hSw0, hSw1, hSw2, hSw3⟩ := hSw
        go_simp
        first
          | done
          | with_reducible rfl
          | rw [if_neg (by omega)]
      try simp only [Act.put, List.setIfInBounds_toArray, List.set_cons_zero, List.set_cons_succ]
      refine wpAnyH_take (i := 17) (oi := { dst := some 34, op := Op.move (Operand.tmp 1), type := 38, pos := "help.go:80", after := #[{ on := 11, ground := Ground.guard }], guard := some (11, false) }) (v := ?_) rfl (by kernel_rfl) (by kernel_rfl) (by kernel_rfl) (fun _ _ _ h => h) (Or.inl ⟨by rfl, ?_⟩) ⟨fd0, fd1, fd2, fd3⟩ ?_
      rotate_left 1
      · intro w hSw
        obtain ⟨hSw0, hSw1, hSw2, hSw3⟩ := hSw
        go_simp
        first
          | done
          | with_reducible rfl
          | rw [if_neg (by omega)]
      try simp only [Act.put, List.setIfInBounds_toArray, List.set_cons_zero, List.set_cons_succ]
      refine wpAnyH_take (i := 18) (oi := { dst := some 35, op := Op.move (Operand.tmp 5), type := 3, pos := "help.go:80", after := #[{ on := 11, ground := Ground.guard }], guard := some (11, false) }) (v := ?_) rfl (by kernel_rfl) (by kernel_rfl) (by kernel_rfl) (fun _ _ _ h => h) (Or.inl ⟨by rfl, ?_⟩) ⟨fd0, fd1, fd2, fd3⟩ ?_
      rotate_left 1
      · intro w hSw
        obtain ⟨hSw0, hSw1, hSw2, hSw3⟩ := hSw
        go_simp
        first
          | done
          | with_reducible rfl
          | rw [if_neg (by omega)]
      try simp only [Act.put, List.setIfInBounds_toArray, List.set_cons_zero, List.set_cons_succ]
      refine wpAnyH_take (i := 19) (oi := { dst := some 36, op := Op.indexAddr 38 (Operand.tmp 34) (Operand.tmp 35), type := 0, pos := "help.go:80", after := #[{ on := 17, ground := Ground.data }, { on := 18, ground := Ground.data }, { on := 11, ground := Ground.guard }], guard := some (11, false) }) (v := .pointer (some ⟨b6, o6 + k * 2, none⟩)) rfl (by kernel_rfl) (by kernel_rfl) (by kernel_rfl) (fun _ _ _ h => h) (Or.inl ⟨by rfl, ?_⟩) ⟨fd0, fd1, fd2, fd3⟩ ?_
      · intro w hSw
        go_simp
        first | done | (intro hc; omega) | rw [if_pos (by omega)]
      try simp only [Act.put, List.setIfInBounds_toArray, List.set_cons_zero, List.set_cons_succ]
      refine wpAnyH_take (i := 20) (oi := { dst := some 37, op := Op.fieldAddr 43 (Operand.tmp 36) 1, type := 0, pos := "help.go:80", after := #[{ on := 19, ground := Ground.data }, { on := 11, ground := Ground.guard }], guard := some (11, false) }) (v := ?_) rfl (by kernel_rfl) (by kernel_rfl) (by kernel_rfl) (fun _ _ _ h => h) (Or.inl ⟨by rfl, ?_⟩) ⟨fd0, fd1, fd2, fd3⟩ ?_
      rotate_left 1
      · intro w hSw
        obtain ⟨hSw0, hSw1, hSw2, hSw3⟩ := hSw
        go_simp
        first
          | done
          | with_reducible rfl
          | rw [if_neg (by omega)]
      try simp only [Act.put, List.setIfInBounds_toArray, List.set_cons_zero, List.set_cons_succ]
      refine wpAnyH_take (i := 21) (oi := { dst := some 38, op := Op.load 22 (Operand.tmp 37), type := 22, pos := "help.go:80", after := #[{ on := 20, ground := Ground.data }, { on := 11, ground := Ground.guard }], guard := some (11, false) }) (v := ?_) rfl (by kernel_rfl) (by kernel_rfl) (by kernel_rfl) (fun _ _ _ h => h) (Or.inl ⟨by rfl, ?_⟩) ⟨fd0, fd1, fd2, fd3⟩ ?_
      rotate_left 1
      · intro w hSw
        obtain ⟨hSw0, hSw1, hSw2, hSw3⟩ := hSw
        go_simp
        first
          | done
          | with_reducible rfl
          | rw [if_neg (by omega)]
      try simp only [Act.put, List.setIfInBounds_toArray, List.set_cons_zero, List.set_cons_succ]
      refine wpAnyH_ready (rs := [22]) (by kernel_rfl) (by simp) ?_
      refine AllReadyH.cons (o := { dst := some 39, op := Op.call { callee := Callee.value (Operand.func 14), args := #[Operand.tmp 33, Operand.tmp 38], argTypes := #[22, 22] }, type := 4, pos := "help.go:80", after := #[{ on := 16, ground := Ground.data }, { on := 21, ground := Ground.data }, { on := 11, ground := Ground.chain }, { on := 11, ground := Ground.guard }], guard := some (11, false) }) rfl (fun K hK => ?_) AllReadyH.nil
      go_simp
      go_at_call 14
      refine (equal_nodes xs xs.length rfl (by omega) xA yA xc yc wd (unhide HXd) (unhide HYd)).mono ?_
      rintro e w501 ⟨rfl, q9, rfl⟩
      have HB9 := hide (below_drewN (unhide HBd) q9)
      try dsimp only
      refine hK.out _ _ ⟨fd0, fd1, fd2, fd3⟩ (fun _ => ?_)
      clear hK K
      try simp only [Act.put, List.setIfInBounds_toArray, List.set_cons_zero, List.set_cons_succ]
      refine wpAnyH_take (i := 23) (oi := { dst := some 40, op := Op.unOp UnOp.not 4 (Operand.tmp 39), type := 4, pos := "help.go:80", after := #[{ on := 22, ground := Ground.data }, { on := 11, ground := Ground.guard }], guard := some (11, false) }) (v := ?_) rfl (by kernel_rfl) (by kernel_rfl) (by kernel_rfl) (fun _ _ _ h => h) (Or.inl ⟨by rfl, ?_⟩) ⟨fd0, fd1, fd2, fd3⟩ ?_
      rotate_left 1
      · intro w hSw
        obtain ⟨hSw0, hSw1, hSw2, hSw3⟩ := hSw
        go_simp
        first
          | done
          | with_reducible rfl
          | rw [if_neg (by omega)]
      try simp only [Act.put, List.setIfInBounds_toArray, List.set_cons_zero, List.set_cons_succ]
      refine wpAnyH_take (i := 24) (oi := { dst := some 41, op := Op.pick (Operand.tmp 28) (Operand.const (Value.bool true)) (Operand.tmp 40), type := 4, pos := "help.go:80", after := #[{ on := 11, ground := Ground.data }, { on := 23, ground := Ground.data }], guard := none }) (v := ?_) rfl (by kernel_rfl) (by kernel_rfl) (by kernel_rfl) (fun _ _ _ h => h) (Or.inl ⟨by rfl, ?_⟩) ⟨fd0, fd1, fd2, fd3⟩ ?_
      rotate_left 1
      · intro w hSw
        obtain ⟨hSw0, hSw1, hSw2, hSw3⟩ := hSw
        go_simp
        first
          | done
          | with_reducible rfl
          | rw [if_neg (by omega)]
      try simp only [Act.put, List.setIfInBounds_toArray, List.set_cons_zero, List.set_cons_succ]
      refine wpAnyH_done (by kernel_rfl) ?_ _
      refine NoPanic.normal ?_
      go_wp2_with fail
      go_roundw
      case rel => exact ⟨k + 1, by omega, by go_num, unhide HB9⟩
      case measure => simp [intOf]; omega
    · go_wp2_with fail
      go_ret
      exact ⟨rfl, hB.out⟩

end Go.Proofs.YtcnanbmbdajcaaaDoor
