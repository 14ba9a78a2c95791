/- The law's awake. No conditions. -/

import Derived.Test.YtdifpemohdnolaaGreatPtY
namespace Go.Proofs.YtdifpemohdnolaaGreat
open Go.RowKit VM

theorem node_pv (w : World) : Calls Tryz.prog 20 #[.int .i64 30, .int .i64 0, .slice none 0 0] w (NodePost w [pv]) :=
  node_any 30 0 [] [] none 0 0 w rfl (by decide) ⟨rfl, fun i r p h => by cases h⟩ (.inl rfl)
set_option linter.unusedSimpArgs false in
set_option maxRecDepth 100000 in
set_option maxHeartbeats 6400000 in
theorem awake_any (w : World) : Calls Tryz.prog 13 #[] w fun e w' => e = .returned (.bool true) ∧ Below w.heap.size w w' := by
  go_enter Tryz.func13, Tryz.ntmps13
  go_wp2_with fail
  refine (node_pv _).mono ?_
  rintro e w1 ⟨A1, m1, d1, rfl, hm1, ho1, hb1⟩
  obtain rfl : m1 = 1 := hm1
  have HB1 := hide hb1
  have HI1 := hide (InC.own ho1)
  clear hb1 ho1
  go_wp2_with fail
  refine (node_pv _).mono ?_
  rintro e w2 ⟨A2, m2, d2, rfl, hm2, ho2, hb2⟩
  obtain rfl : m2 = 1 := hm2
  have HI2 := hide (InC.own ho2)
  have HI1b := hide ((unhide HI1).below hb2)
  have HB2 := hide ((unhide HB1).trans (hb2.mono (unhide HB1).size))
  clear hb2 ho2 HI1
  have HIL := hide (new_in w2 22 #[.slice A1 1 d1, .slice A2 1 d2])
  have HB3 := hide ((unhide HB2).alloc (unhide HB2).size (.cells #[.slice A1 1 d1, .slice A2 1 d2] 22))
  have HRS : Hid (Rows (w2.alloc (.cells #[.slice A1 1 d1, .slice A2 1 d2] 22)) [(A1, 1, d1), (A2, 1, d2)] [[pv], [pv]]) := hide ⟨rfl, fun i r p h1 h2 => by
    match i with
    | 0 => cases h1; cases h2; exact ⟨rfl, show (1 : Nat) ≤ 8192 by decide, (unhide HI1b).alloc _⟩
    | 1 => cases h1; cases h2; exact ⟨rfl, show (1 : Nat) ≤ 8192 by decide, (unhide HI2).alloc _⟩
    | i + 2 => cases h1⟩
  go_wp2_with fail
  refine (node_any 36 1 [[pv], [pv]] [(A1, 1, d1), (A2, 1, d2)] (some ⟨w2.heap.size, 0, none⟩) 2 2 _ rfl (by decide) (unhide HRS) (unhide HIL)).mono ?_
  rintro e w3 ⟨AP, mp, dp, rfl, hmp, hop, hbp⟩
  have e2 : nodeL 36 1 [[pv], [pv]] = exP := catP_node 1 2
  rw [e2] at hmp hop
  obtain rfl : mp = 3 := hmp
  have HIP := hide (InC.own hop)
  have HB4 := hide ((unhide HB3).trans (hbp.mono (unhide HB3).size))
  clear hbp hop HRS HIL HI2 HI1b e2 HB2 HB3
  go_wp2_with fail
  refine (rint_any _ _).mono ?_
  rintro e w4 ⟨rfl, hb4⟩
  have HIP4 := hide ((unhide HIP).below hb4)
  have HB5 := hide ((unhide HB4).trans (hb4.mono (unhide HB4).size))
  clear hb4
  go_wp2_with fail
  refine (rint_any _ _).mono ?_
  rintro e w5 ⟨rfl, hb5⟩
  have HIP5 := hide ((unhide HIP4).below hb5)
  have HB6 := hide ((unhide HB5).trans (hb5.mono (unhide HB5).size))
  clear hb5
  have hsz1 : exS.size ≤ 281474976710656 := Nat.le_trans (mkM_small 4 _) (by decide)
  have hszL : ∀ u ∈ exL, u.size ≤ 281474976710656 := fun u hu => by
    unfold exL at hu
    simp at hu
    rcases hu with rfl | rfl
    · rw [intB_size]; decide
    · exact Nat.le_trans (mkM_small 4 _) (by decide)
  have HMK : Hid (∀ W A c, InC W A ([intB 1, intB 2].map Value.string) → Calls Tryz.prog 22 #[.int .i64 4, .slice A 2 c] W fun e w' => e = .returned (.string exS) ∧ Below W.heap.size W w') := Lib.hid (fun W A c hr => rmake_any 4 (by decide) [intB 1, intB 2] A 2 c W rfl (by decide) (fun s hs => by have := (tree_val (Nat.le_refl _) (valB_le (by decide) (ex_val s hs))).2.2; omega) hr)
  have HMT : Hid (∀ W, InC W AP (exP.flatMap cdCells) → Calls Tryz.prog 17 #[.slice AP 3 dp, .string exS] W (MatchPost W (some exL))) := Lib.hid (fun W hA => by rw [← ex_match]; exact match_any exP AP 3 dp exS hsz1 W rfl (by decide) hA)
  have HBD : Hid (∀ W AL dl, InC W AP (exP.flatMap cdCells) → 2 ≤ dl → InC W AL (exL.map Value.string) → Calls Tryz.prog 15 #[.slice AP 3 dp, .slice AL 2 dl] W (BuildPost W (some exS))) := Lib.hid (fun W AL dl hA hd hL => by rw [← ex_build]; exact buildP_any exP exL AP AL 3 dp 2 dl W rfl (by decide) hA rfl (by decide) hd hszL hL)
  have HVR : Hid (∀ W, InC W AP (exP.flatMap cdCells) → Calls Tryz.prog 19 #[.slice AP 3 dp] W fun e w' => e = .returned (.int .i64 2) ∧ Below W.heap.size W w') := Lib.hid (fun W hA => by have q := vars_any exP AP 3 dp W rfl (by decide) hA; rw [show varsN exP = 2 from catP_vars 1 2] at q; exact q)
  have HIR : Hid (∀ W, InC W AP (exP.flatMap cdCells) → Calls Tryz.prog 23 #[.slice AP 3 dp] W fun e w' => e = .returned (.bool false) ∧ Below W.heap.size W w') := Lib.hid (fun W hA => by have q := irrefutable_any exP AP 3 dp W rfl (by decide) hA; rw [show irrB exP = false from catP_irr 1 2] at q; exact q)
  have HIN1 := Lib.hid (fun W => rint_any 1 W)
  have HL0 : Hid ((exL.map Value.string)[0]? = some (.string (intB 1))) := Lib.hid rfl
  have HL2 : Hid (∀ m, m = exL.length → m = 2) := Lib.hid (fun m h => h)
  clear hsz1 hszL
  generalize exP.flatMap cdCells = pc at *
  generalize hel : exL.map Value.string = lc at *
  generalize exS = s at *
  generalize intB 1 = i1 at *
  generalize intB 2 = i2 at *
  have HI5 := hide (new_in w5 23 #[.string i1, .string i2])
  have HIP6 := hide ((unhide HIP5).alloc (.cells #[.string i1, .string i2] 23))
  have HB7 := hide ((unhide HB6).alloc (unhide HB6).size (.cells #[.string i1, .string i2] 23))
  go_wp2_with fail
  refine (HMK.out _ (some ⟨w5.heap.size, 0, none⟩) 2 (unhide HI5)).mono ?_
  rintro e w6 ⟨rfl, hb6⟩
  have HIP7 := hide ((unhide HIP6).below hb6)
  have HB8 := hide ((unhide HB7).trans (hb6.mono (unhide HB7).size))
  clear hb6
  go_wp2_with fail
  refine (HMT.out _ (unhide HIP7)).mono ?_
  rintro e w7 ⟨AL, ml, dl, rfl, ⟨hl, _⟩, hb7⟩
  obtain ⟨hml, _, hol⟩ := hl exL rfl
  obtain rfl : ml = 2 := HL2.out ml hml
  rw [hel] at hol
  have hd2 := owns_le hol
  have HIL7 := hide (InC.own hol)
  have HIP8 := hide ((unhide HIP7).below hb7)
  have HB9 := hide ((unhide HB8).trans (hb7.mono (unhide HB8).size))
  clear hb7 hl hml hol
  simp only [Option.isSome_some]
  go_wp2_with fail
  refine (HBD.out _ AL dl (unhide HIP8) hd2 (unhide HIL7)).mono ?_
  rintro e w8 ⟨rfl, hb8⟩
  have HIL8 := hide ((unhide HIL7).below hb8)
  have HIP9 := hide ((unhide HIP8).below hb8)
  have HB10 := hide ((unhide HB9).trans (hb8.mono (unhide HB9).size))
  clear hb8
  simp only [Option.isSome_some, Option.getD_some]
  go_wp2_with fail
  obtain ⟨bL, oL, rfl, _, hx0⟩ := at1s (unhide HIL8) (i := 0) (u := .string i1) HL0.out
  rw [Nat.add_zero] at hx0
  have si : (i1.toList == i1.toList) = true := beq_self_eq_true _
  have ss : (s.toList == s.toList) = true := beq_self_eq_true _
  have hbw := hide (below_drew (unhide HB10))
  have HIPd := hide (InC.drew (unhide HIP9))
  have fd0 : Hid (w8.drew.cell? ⟨bL, oL, none⟩ = some (.string i1)) := hide hx0
  refine wp_region_noPanic ?_
  refine wp_region_held_drew (S := fun W => W.cell? ⟨bL, oL, none⟩ = some (.string i1)) (by kernel_rfl) fd0 (fun _ => ?_)
  generalize w8.drew = wd at *
  try simp only [Act.put, List.setIfInBounds_toArray, List.set_cons_zero, List.set_cons_succ]
  refine wpAnyH_take (i := 0) (oi := { dst := some 27, op := Op.move (Operand.tmp 4), type := 4, pos := "law.go:65", after := #[], guard := none }) (v := ?_) rfl (by kernel_rfl) (by kernel_rfl) (by kernel_rfl) (fun _ _ _ h => h) (Or.inl ⟨by rfl, ?_⟩) fd0 ?_
  rotate_left 1
  · intro w hSw
    try dsimp only at hSw
    go_simp
    first
      | done
      | with_reducible rfl
      | rw [if_neg (by omega)]
  try simp only [Act.put, List.setIfInBounds_toArray, List.set_cons_zero, List.set_cons_succ]
  refine wpAnyH_take (i := 1) (oi := { dst := some 28, op := Op.move (Operand.tmp 27), type := 4, pos := "law.go:65", after := #[{ on := 0, ground := Ground.data }], guard := none }) (v := ?_) rfl (by kernel_rfl) (by kernel_rfl) (by kernel_rfl) (fun _ _ _ h => h) (Or.inl ⟨by rfl, ?_⟩) fd0 ?_
  rotate_left 1
  · intro w hSw
    try dsimp only at hSw
    go_simp
    first
      | done
      | with_reducible rfl
      | rw [if_neg (by omega)]
  try simp only [Act.put, List.setIfInBounds_toArray, List.set_cons_zero, List.set_cons_succ]
  refine wpAnyH_take (i := 2) (oi := { dst := some 29, op := Op.move (Operand.tmp 3), type := 24, pos := "law.go:65", after := #[{ on := 1, ground := Ground.guard }], guard := some (1, true) }) (v := ?_) rfl (by kernel_rfl) (by kernel_rfl) (by kernel_rfl) (fun _ _ _ h => h) (Or.inl ⟨by rfl, ?_⟩) fd0 ?_
  rotate_left 1
  · intro w hSw
    try dsimp only at hSw
    go_simp
    first
      | done
      | with_reducible rfl
      | rw [if_neg (by omega)]
  try simp only [Act.put, List.setIfInBounds_toArray, List.set_cons_zero, List.set_cons_succ]
  refine wpAnyH_take (i := 3) (oi := { dst := some 30, op := Op.call { callee := Callee.builtin Builtin.len, args := #[Operand.tmp 29], argTypes := #[24] }, type := 3, pos := "law.go:65", after := #[{ on := 2, ground := Ground.data }, { on := 1, ground := Ground.guard }], guard := some (1, true) }) (v := ?_) rfl (by kernel_rfl) (by kernel_rfl) (by kernel_rfl) (fun _ _ _ h => h) (Or.inl ⟨by rfl, ?_⟩) fd0 ?_
  rotate_left 1
  · intro w hSw
    try dsimp only at hSw
    go_simp
    first
      | done
      | with_reducible rfl
      | rw [if_neg (by omega)]
  try simp only [Act.put, List.setIfInBounds_toArray, List.set_cons_zero, List.set_cons_succ]
  refine wpAnyH_take (i := 4) (oi := { dst := some 31, op := Op.binOp BinOp.eql 3 (Operand.tmp 30) (Operand.const (Value.int IntKind.i64 2)) 3, type := 4, pos := "law.go:65", after := #[{ on := 3, ground := Ground.data }, { on := 1, ground := Ground.guard }], guard := some (1, true) }) (v := .bool true) rfl (by kernel_rfl) (by kernel_rfl) (by kernel_rfl) (fun _ _ _ h => h) (Or.inl ⟨by rfl, ?_⟩) fd0 ?_
  · intro w hSw
    go_simp
    first
      | done
      | rfl
      | (intro q; omega)
      | simp
  try simp only [Act.put, List.setIfInBounds_toArray, List.set_cons_zero, List.set_cons_succ]
  refine wpAnyH_take (i := 5) (oi := { dst := some 32, op := Op.pick (Operand.tmp 28) (Operand.tmp 31) (Operand.const (Value.bool false)), type := 4, pos := "law.go:65", after := #[{ on := 1, ground := Ground.data }, { on := 4, ground := Ground.data }], guard := none }) (v := ?_) rfl (by kernel_rfl) (by kernel_rfl) (by kernel_rfl) (fun _ _ _ h => h) (Or.inl ⟨by rfl, ?_⟩) fd0 ?_
  rotate_left 1
  · intro w hSw
    try dsimp only at hSw
    go_simp
    first
      | done
      | with_reducible rfl
      | rw [if_neg (by omega)]
  try simp only [Act.put, List.setIfInBounds_toArray, List.set_cons_zero, List.set_cons_succ]
  refine wpAnyH_take (i := 6) (oi := { dst := some 33, op := Op.move (Operand.tmp 32), type := 4, pos := "law.go:65", after := #[{ on := 5, ground := Ground.data }, { on := 1, ground := Ground.chain }], guard := none }) (v := ?_) rfl (by kernel_rfl) (by kernel_rfl) (by kernel_rfl) (fun _ _ _ h => h) (Or.inl ⟨by rfl, ?_⟩) fd0 ?_
  rotate_left 1
  · intro w hSw
    try dsimp only at hSw
    go_simp
    first
      | done
      | with_reducible rfl
      | rw [if_neg (by omega)]
  try simp only [Act.put, List.setIfInBounds_toArray, List.set_cons_zero, List.set_cons_succ]
  refine wpAnyH_take (i := 7) (oi := { dst := some 34, op := Op.move (Operand.tmp 3), type := 24, pos := "law.go:65", after := #[{ on := 6, ground := Ground.guard }], guard := some (6, true) }) (v := ?_) rfl (by kernel_rfl) (by kernel_rfl) (by kernel_rfl) (fun _ _ _ h => h) (Or.inl ⟨by rfl, ?_⟩) fd0 ?_
  rotate_left 1
  · intro w hSw
    try dsimp only at hSw
    go_simp
    first
      | done
      | with_reducible rfl
      | rw [if_neg (by omega)]
  try simp only [Act.put, List.setIfInBounds_toArray, List.set_cons_zero, List.set_cons_succ]
  refine wpAnyH_take (i := 8) (oi := { dst := some 35, op := Op.indexAddr 24 (Operand.tmp 34) (Operand.const (Value.int IntKind.i64 0)), type := 0, pos := "law.go:65", after := #[{ on := 7, ground := Ground.data }, { on := 6, ground := Ground.guard }], guard := some (6, true) }) (v := .pointer (some ⟨bL, oL, none⟩)) rfl (by kernel_rfl) (by kernel_rfl) (by kernel_rfl) (fun _ _ _ h => h) (Or.inl ⟨by rfl, ?_⟩) fd0 ?_
  · intro w hSw
    go_simp
    first
      | done
      | rfl
      | (intro q; omega)
      | simp
  try simp only [Act.put, List.setIfInBounds_toArray, List.set_cons_zero, List.set_cons_succ]
  refine wpAnyH_take (i := 9) (oi := { dst := some 36, op := Op.load 23 (Operand.tmp 35), type := 23, pos := "law.go:65", after := #[{ on := 8, ground := Ground.data }, { on := 6, ground := Ground.guard }], guard := some (6, true) }) (v := ?_) rfl (by kernel_rfl) (by kernel_rfl) (by kernel_rfl) (fun _ _ _ h => h) (Or.inl ⟨by rfl, ?_⟩) fd0 ?_
  rotate_left 1
  · intro w hSw
    try dsimp only at hSw
    go_simp
    first
      | done
      | with_reducible rfl
      | rw [if_neg (by omega)]
  try simp only [Act.put, List.setIfInBounds_toArray, List.set_cons_zero, List.set_cons_succ]
  refine wpAnyH_ready (rs := [10]) (by kernel_rfl) (by simp) ?_
  refine AllReadyH.cons (o := { dst := some 37, op := Op.call { callee := Callee.value (Operand.func 25), args := #[Operand.const (Value.int IntKind.i64 1)], argTypes := #[2] }, type := 23, pos := "law.go:65", after := #[{ on := 6, ground := Ground.chain }, { on := 6, ground := Ground.guard }], guard := some (6, true) }) rfl (fun K hK => ?_) AllReadyH.nil
  go_simp
  go_at_call 25
  refine (HIN1.out _).mono ?_
  rintro e w501 ⟨rfl, hba⟩
  have HBA := hide ((unhide hbw).trans (hba.mono (unhide hbw).size))
  have HIPa := hide ((unhide HIPd).below hba)
  have fa := hide (cell_down hba (unhide fd0))
  clear hba
  try dsimp only
  refine hK.out _ _ fa (fun _ => ?_)
  clear hK K
  try simp only [Act.put, List.setIfInBounds_toArray, List.set_cons_zero, List.set_cons_succ]
  refine wpAnyH_take (i := 11) (oi := { dst := some 38, op := Op.binOp BinOp.eql 23 (Operand.tmp 36) (Operand.tmp 37) 23, type := 4, pos := "law.go:65", after := #[{ on := 9, ground := Ground.data }, { on := 10, ground := Ground.data }, { on := 6, ground := Ground.guard }], guard := some (6, true) }) (v := .bool true) rfl (by kernel_rfl) (by kernel_rfl) (by kernel_rfl) (fun _ _ _ h => h) (Or.inl ⟨by rfl, ?_⟩) fa ?_
  · intro w hSw
    go_simp
    first
      | done
      | rfl
      | (intro q; omega)
      | simp
  try simp only [Act.put, List.setIfInBounds_toArray, List.set_cons_zero, List.set_cons_succ]
  refine wpAnyH_take (i := 12) (oi := { dst := some 39, op := Op.pick (Operand.tmp 33) (Operand.tmp 38) (Operand.const (Value.bool false)), type := 4, pos := "law.go:65", after := #[{ on := 6, ground := Ground.data }, { on := 11, ground := Ground.data }], guard := none }) (v := ?_) rfl (by kernel_rfl) (by kernel_rfl) (by kernel_rfl) (fun _ _ _ h => h) (Or.inl ⟨by rfl, ?_⟩) fa ?_
  rotate_left 1
  · intro w hSw
    try dsimp only at hSw
    go_simp
    first
      | done
      | with_reducible rfl
      | rw [if_neg (by omega)]
  try simp only [Act.put, List.setIfInBounds_toArray, List.set_cons_zero, List.set_cons_succ]
  refine wpAnyH_take (i := 13) (oi := { dst := some 40, op := Op.move (Operand.tmp 39), type := 4, pos := "law.go:65", after := #[{ on := 12, ground := Ground.data }, { on := 10, ground := Ground.chain }], guard := none }) (v := ?_) rfl (by kernel_rfl) (by kernel_rfl) (by kernel_rfl) (fun _ _ _ h => h) (Or.inl ⟨by rfl, ?_⟩) fa ?_
  rotate_left 1
  · intro w hSw
    try dsimp only at hSw
    go_simp
    first
      | done
      | with_reducible rfl
      | rw [if_neg (by omega)]
  try simp only [Act.put, List.setIfInBounds_toArray, List.set_cons_zero, List.set_cons_succ]
  refine wpAnyH_take (i := 14) (oi := { dst := some 41, op := Op.move (Operand.tmp 1), type := 22, pos := "law.go:65", after := #[{ on := 13, ground := Ground.guard }], guard := some (13, true) }) (v := ?_) rfl (by kernel_rfl) (by kernel_rfl) (by kernel_rfl) (fun _ _ _ h => h) (Or.inl ⟨by rfl, ?_⟩) fa ?_
  rotate_left 1
  · intro w hSw
    try dsimp only at hSw
    go_simp
    first
      | done
      | with_reducible rfl
      | rw [if_neg (by omega)]
  try simp only [Act.put, List.setIfInBounds_toArray, List.set_cons_zero, List.set_cons_succ]
  refine wpAnyH_ready (rs := [15]) (by kernel_rfl) (by simp) ?_
  refine AllReadyH.cons (o := { dst := some 42, op := Op.call { callee := Callee.value (Operand.func 19), args := #[Operand.tmp 41], argTypes := #[22] }, type := 3, pos := "law.go:65", after := #[{ on := 14, ground := Ground.data }, { on := 13, ground := Ground.chain }, { on := 13, ground := Ground.guard }], guard := some (13, true) }) rfl (fun K hK => ?_) AllReadyH.nil
  go_simp
  go_at_call 19
  refine (HVR.out _ (unhide HIPa)).mono ?_
  rintro e w502 ⟨rfl, hbb⟩
  have HBB := hide ((unhide HBA).trans (hbb.mono (unhide HBA).size))
  have HIPb := hide ((unhide HIPa).below hbb)
  have fb := hide (cell_down hbb (unhide fa))
  clear hbb
  try dsimp only
  refine hK.out _ _ fb (fun _ => ?_)
  clear hK K
  try simp only [Act.put, List.setIfInBounds_toArray, List.set_cons_zero, List.set_cons_succ]
  refine wpAnyH_take (i := 16) (oi := { dst := some 43, op := Op.binOp BinOp.eql 3 (Operand.tmp 42) (Operand.const (Value.int IntKind.i64 2)) 3, type := 4, pos := "law.go:65", after := #[{ on := 15, ground := Ground.data }, { on := 13, ground := Ground.guard }], guard := some (13, true) }) (v := .bool true) rfl (by kernel_rfl) (by kernel_rfl) (by kernel_rfl) (fun _ _ _ h => h) (Or.inl ⟨by rfl, ?_⟩) fb ?_
  · intro w hSw
    go_simp
    first
      | done
      | rfl
      | (intro q; omega)
      | simp
  try simp only [Act.put, List.setIfInBounds_toArray, List.set_cons_zero, List.set_cons_succ]
  refine wpAnyH_take (i := 17) (oi := { dst := some 44, op := Op.pick (Operand.tmp 40) (Operand.tmp 43) (Operand.const (Value.bool false)), type := 4, pos := "law.go:65", after := #[{ on := 13, ground := Ground.data }, { on := 16, ground := Ground.data }], guard := none }) (v := ?_) rfl (by kernel_rfl) (by kernel_rfl) (by kernel_rfl) (fun _ _ _ h => h) (Or.inl ⟨by rfl, ?_⟩) fb ?_
  rotate_left 1
  · intro w hSw
    try dsimp only at hSw
    go_simp
    first
      | done
      | with_reducible rfl
      | rw [if_neg (by omega)]
  try simp only [Act.put, List.setIfInBounds_toArray, List.set_cons_zero, List.set_cons_succ]
  refine wpAnyH_take (i := 18) (oi := { dst := some 45, op := Op.move (Operand.tmp 44), type := 4, pos := "law.go:65", after := #[{ on := 17, ground := Ground.data }, { on := 15, ground := Ground.chain }], guard := none }) (v := ?_) rfl (by kernel_rfl) (by kernel_rfl) (by kernel_rfl) (fun _ _ _ h => h) (Or.inl ⟨by rfl, ?_⟩) fb ?_
  rotate_left 1
  · intro w hSw
    try dsimp only at hSw
    go_simp
    first
      | done
      | with_reducible rfl
      | rw [if_neg (by omega)]
  try simp only [Act.put, List.setIfInBounds_toArray, List.set_cons_zero, List.set_cons_succ]
  refine wpAnyH_take (i := 19) (oi := { dst := some 46, op := Op.move (Operand.tmp 6), type := 4, pos := "law.go:65", after := #[{ on := 18, ground := Ground.guard }], guard := some (18, true) }) (v := ?_) rfl (by kernel_rfl) (by kernel_rfl) (by kernel_rfl) (fun _ _ _ h => h) (Or.inl ⟨by rfl, ?_⟩) fb ?_
  rotate_left 1
  · intro w hSw
    try dsimp only at hSw
    go_simp
    first
      | done
      | with_reducible rfl
      | rw [if_neg (by omega)]
  try simp only [Act.put, List.setIfInBounds_toArray, List.set_cons_zero, List.set_cons_succ]
  refine wpAnyH_take (i := 20) (oi := { dst := some 47, op := Op.pick (Operand.tmp 45) (Operand.tmp 46) (Operand.const (Value.bool false)), type := 4, pos := "law.go:65", after := #[{ on := 18, ground := Ground.data }, { on := 19, ground := Ground.data }], guard := none }) (v := ?_) rfl (by kernel_rfl) (by kernel_rfl) (by kernel_rfl) (fun _ _ _ h => h) (Or.inl ⟨by rfl, ?_⟩) fb ?_
  rotate_left 1
  · intro w hSw
    try dsimp only at hSw
    go_simp
    first
      | done
      | with_reducible rfl
      | rw [if_neg (by omega)]
  try simp only [Act.put, List.setIfInBounds_toArray, List.set_cons_zero, List.set_cons_succ]
  refine wpAnyH_take (i := 21) (oi := { dst := some 48, op := Op.move (Operand.tmp 47), type := 4, pos := "law.go:65", after := #[{ on := 20, ground := Ground.data }, { on := 18, ground := Ground.chain }], guard := none }) (v := ?_) rfl (by kernel_rfl) (by kernel_rfl) (by kernel_rfl) (fun _ _ _ h => h) (Or.inl ⟨by rfl, ?_⟩) fb ?_
  rotate_left 1
  · intro w hSw
    try dsimp only at hSw
    go_simp
    first
      | done
      | with_reducible rfl
      | rw [if_neg (by omega)]
  try simp only [Act.put, List.setIfInBounds_toArray, List.set_cons_zero, List.set_cons_succ]
  refine wpAnyH_take (i := 22) (oi := { dst := some 49, op := Op.move (Operand.tmp 5), type := 23, pos := "law.go:65", after := #[{ on := 21, ground := Ground.guard }], guard := some (21, true) }) (v := ?_) rfl (by kernel_rfl) (by kernel_rfl) (by kernel_rfl) (fun _ _ _ h => h) (Or.inl ⟨by rfl, ?_⟩) fb ?_
  rotate_left 1
  · intro w hSw
    try dsimp only at hSw
    go_simp
    first
      | done
      | with_reducible rfl
      | rw [if_neg (by omega)]
  try simp only [Act.put, List.setIfInBounds_toArray, List.set_cons_zero, List.set_cons_succ]
  refine wpAnyH_take (i := 23) (oi := { dst := some 50, op := Op.move (Operand.tmp 2), type := 23, pos := "law.go:65", after := #[{ on := 21, ground := Ground.guard }], guard := some (21, true) }) (v := ?_) rfl (by kernel_rfl) (by kernel_rfl) (by kernel_rfl) (fun _ _ _ h => h) (Or.inl ⟨by rfl, ?_⟩) fb ?_
  rotate_left 1
  · intro w hSw
    try dsimp only at hSw
    go_simp
    first
      | done
      | with_reducible rfl
      | rw [if_neg (by omega)]
  try simp only [Act.put, List.setIfInBounds_toArray, List.set_cons_zero, List.set_cons_succ]
  refine wpAnyH_take (i := 24) (oi := { dst := some 51, op := Op.binOp BinOp.eql 23 (Operand.tmp 49) (Operand.tmp 50) 23, type := 4, pos := "law.go:65", after := #[{ on := 22, ground := Ground.data }, { on := 23, ground := Ground.data }, { on := 21, ground := Ground.guard }], guard := some (21, true) }) (v := .bool true) rfl (by kernel_rfl) (by kernel_rfl) (by kernel_rfl) (fun _ _ _ h => h) (Or.inl ⟨by rfl, ?_⟩) fb ?_
  · intro w hSw
    go_simp
    first
      | done
      | rfl
      | (intro q; omega)
      | simp
  try simp only [Act.put, List.setIfInBounds_toArray, List.set_cons_zero, List.set_cons_succ]
  refine wpAnyH_take (i := 25) (oi := { dst := some 52, op := Op.pick (Operand.tmp 48) (Operand.tmp 51) (Operand.const (Value.bool false)), type := 4, pos := "law.go:65", after := #[{ on := 21, ground := Ground.data }, { on := 24, ground := Ground.data }], guard := none }) (v := ?_) rfl (by kernel_rfl) (by kernel_rfl) (by kernel_rfl) (fun _ _ _ h => h) (Or.inl ⟨by rfl, ?_⟩) fb ?_
  rotate_left 1
  · intro w hSw
    try dsimp only at hSw
    go_simp
    first
      | done
      | with_reducible rfl
      | rw [if_neg (by omega)]
  try simp only [Act.put, List.setIfInBounds_toArray, List.set_cons_zero, List.set_cons_succ]
  refine wpAnyH_take (i := 26) (oi := { dst := some 53, op := Op.move (Operand.tmp 52), type := 4, pos := "law.go:65", after := #[{ on := 25, ground := Ground.data }, { on := 21, ground := Ground.chain }], guard := none }) (v := ?_) rfl (by kernel_rfl) (by kernel_rfl) (by kernel_rfl) (fun _ _ _ h => h) (Or.inl ⟨by rfl, ?_⟩) fb ?_
  rotate_left 1
  · intro w hSw
    try dsimp only at hSw
    go_simp
    first
      | done
      | with_reducible rfl
      | rw [if_neg (by omega)]
  try simp only [Act.put, List.setIfInBounds_toArray, List.set_cons_zero, List.set_cons_succ]
  refine wpAnyH_take (i := 27) (oi := { dst := some 54, op := Op.move (Operand.tmp 1), type := 22, pos := "law.go:65", after := #[{ on := 26, ground := Ground.guard }], guard := some (26, true) }) (v := ?_) rfl (by kernel_rfl) (by kernel_rfl) (by kernel_rfl) (fun _ _ _ h => h) (Or.inl ⟨by rfl, ?_⟩) fb ?_
  rotate_left 1
  · intro w hSw
    try dsimp only at hSw
    go_simp
    first
      | done
      | with_reducible rfl
      | rw [if_neg (by omega)]
  try simp only [Act.put, List.setIfInBounds_toArray, List.set_cons_zero, List.set_cons_succ]
  refine wpAnyH_ready (rs := [28]) (by kernel_rfl) (by simp) ?_
  refine AllReadyH.cons (o := { dst := some 55, op := Op.call { callee := Callee.value (Operand.func 23), args := #[Operand.tmp 54], argTypes := #[22] }, type := 4, pos := "law.go:65", after := #[{ on := 27, ground := Ground.data }, { on := 26, ground := Ground.chain }, { on := 26, ground := Ground.guard }], guard := some (26, true) }) rfl (fun K hK => ?_) AllReadyH.nil
  go_simp
  go_at_call 23
  refine (HIR.out _ (unhide HIPb)).mono ?_
  rintro e w503 ⟨rfl, hbz⟩
  have HBZ := hide ((unhide HBB).trans (hbz.mono (unhide HBB).size))
  try dsimp only
  refine hK.out _ _ (cell_down hbz (unhide fb)) (fun _ => ?_)
  clear hK K
  try simp only [Act.put, List.setIfInBounds_toArray, List.set_cons_zero, List.set_cons_succ]
  refine wpAnyH_take (i := 29) (oi := { dst := some 56, op := Op.unOp UnOp.not 4 (Operand.tmp 55), type := 4, pos := "law.go:65", after := #[{ on := 28, ground := Ground.data }, { on := 26, ground := Ground.guard }], guard := some (26, true) }) (v := .bool true) rfl (by kernel_rfl) (by kernel_rfl) (by kernel_rfl) (fun _ _ _ h => h) (Or.inl ⟨by rfl, ?_⟩) (cell_down hbz (unhide fb)) ?_
  · intro w hSw
    go_simp
    first
      | done
      | rfl
      | (intro q; omega)
      | simp
  try simp only [Act.put, List.setIfInBounds_toArray, List.set_cons_zero, List.set_cons_succ]
  refine wpAnyH_take (i := 30) (oi := { dst := some 57, op := Op.pick (Operand.tmp 53) (Operand.tmp 56) (Operand.const (Value.bool false)), type := 4, pos := "law.go:65", after := #[{ on := 26, ground := Ground.data }, { on := 29, ground := Ground.data }], guard := none }) (v := ?_) rfl (by kernel_rfl) (by kernel_rfl) (by kernel_rfl) (fun _ _ _ h => h) (Or.inl ⟨by rfl, ?_⟩) (cell_down hbz (unhide fb)) ?_
  rotate_left 1
  · intro w hSw
    try dsimp only at hSw
    go_simp
    first
      | done
      | with_reducible rfl
      | rw [if_neg (by omega)]
  try simp only [Act.put, List.setIfInBounds_toArray, List.set_cons_zero, List.set_cons_succ]
  refine wpAnyH_take (i := 31) (oi := { dst := some 0, op := Op.assign (Operand.tmp 57), type := 4, pos := "law.go:65", after := #[{ on := 30, ground := Ground.data }, { on := 28, ground := Ground.chain }, { on := 0, ground := Ground.phase }, { on := 1, ground := Ground.phase }, { on := 2, ground := Ground.phase }, { on := 3, ground := Ground.phase }, { on := 4, ground := Ground.phase }, { on := 5, ground := Ground.phase }, { on := 6, ground := Ground.phase }, { on := 7, ground := Ground.phase }, { on := 8, ground := Ground.phase }, { on := 9, ground := Ground.phase }, { on := 10, ground := Ground.phase }, { on := 11, ground := Ground.phase }, { on := 12, ground := Ground.phase }, { on := 13, ground := Ground.phase }, { on := 14, ground := Ground.phase }, { on := 15, ground := Ground.phase }, { on := 16, ground := Ground.phase }, { on := 17, ground := Ground.phase }, { on := 18, ground := Ground.phase }, { on := 19, ground := Ground.phase }, { on := 20, ground := Ground.phase }, { on := 21, ground := Ground.phase }, { on := 22, ground := Ground.phase }, { on := 23, ground := Ground.phase }, { on := 24, ground := Ground.phase }, { on := 25, ground := Ground.phase }, { on := 26, ground := Ground.phase }, { on := 27, ground := Ground.phase }, { on := 28, ground := Ground.phase }, { on := 29, ground := Ground.phase }, { on := 30, ground := Ground.phase }], guard := none }) (v := ?_) rfl (by kernel_rfl) (by kernel_rfl) (by kernel_rfl) (fun _ _ _ h => h) (Or.inl ⟨by rfl, ?_⟩) (cell_down hbz (unhide fb)) ?_
  rotate_left 1
  · intro w hSw
    try dsimp only at hSw
    go_simp
    first
      | done
      | with_reducible rfl
      | rw [if_neg (by omega)]
  try simp only [Act.put, List.setIfInBounds_toArray, List.set_cons_zero, List.set_cons_succ]
  refine wpAnyH_done (by kernel_rfl) ?_ _
  refine NoPanic.normal ?_
  go_wp2_with fail
  go_ret
  exact ⟨rfl, unhide HBZ⟩

end Go.Proofs.YtdifpemohdnolaaGreat
