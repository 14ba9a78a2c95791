/- The writer of sources: boolean expressions. Conditions: expr's contract one level down; at most 1000 names. -/
import Derived.Test.YtkjjagmpnnnimaaGreatDoorQ13
namespace Go.Proofs.YtkjjagmpnnnimaaGreatDoor
open Go.RowKit M

set_option maxRecDepth 100000 in
set_option maxHeartbeats 12800000 in
theorem gtruth {dep dep' : Int} {L D : Nat} (hE : ECon dep' L D) (hd : IntKind.i64.wrap (dep - 1) = dep') (hL : L ≤ 300) {w : World} {Pr : Nat → Prop} {X : GC} {k fr : Nat} (h : GSt w Pr X k fr) (hn : X.n ≤ maxLen) (hf : fr + (1 + 3 * D) ≤ 1000) :
    Calls Tryz.prog 41 #[.pointer (some ⟨X.wb, 0, none⟩), .int .i64 dep] w (GPost w Pr X k fr (17 + 3 * L) (1 + 3 * D)) := by
  have k0 := h.c0
  have hkf := h.kf
  have HS := Lib.hid h
  have HN := Lib.hid hn
  have HE := Lib.hid hE
  have HL := Lib.hid h.lt
  have HK0 : Hid (Keep Pr w w) := Keep.refl Pr w
  clear h hn hE
  go_enter Tryz.func41, Tryz.ntmps41
  go_wp2_with fail
  refine (gnext 7 7 rfl (by decide) (by decide) HS.out HN.out).mono ?_
  rintro e w1 ⟨r1, hr1, rfl, hG1, hK1⟩
  have HG1 := Lib.hid hG1
  have HK1 := Lib.hid (HK0.out.trans hK1)
  clear hG1 hK1
  have c1 := HG1.out.c0
  have hd1 := digS_size r1
  have hc : r1 = 0 ∨ r1 = 1 ∨ r1 = 2 ∨ r1 = 3 ∨ r1 = 4 ∨ r1 = 5 ∨ r1 = 6 := by omega
  rcases hc with rfl | rfl | rfl | rfl | rfl | rfl | rfl
  · go_wp2_with fail
    have HGd := Lib.hid HG1.out.drew
    have HKd := Lib.hid HK1.out.drew
    refine wp_region_noPanic ?_
    refine wp_region_held_drew (S := fun W => W.cell? ⟨X.wb, 0, none⟩ = some (.pointer (some ⟨X.g, 0, none⟩))) (by kernel_rfl) (HGd.out.c0) (fun _ => ?_)
    generalize w1.drew = wd at *
    try simp only [Act.put, List.setIfInBounds_toArray, List.set_cons_zero, List.set_cons_succ]
    refine wpAnyH_take (i := 0) (oi := { dst := some 14, op := Op.move (Operand.tmp 0), type := 45, pos := "source.go:136", after := #[], guard := none }) (v := ?_) rfl (by kernel_rfl) (by kernel_rfl) (by kernel_rfl) (fun _ _ _ h => h) (Or.inl ⟨by rfl, ?_⟩) (HGd.out.c0) ?_
    rotate_left 1
    · intro w hSw
      try dsimp only at hSw
      go_simp
      first
        | done
        | with_reducible rfl
        | rw [if_neg (by omega)]
    try simp only [Act.put, List.setIfInBounds_toArray, List.set_cons_zero, List.set_cons_succ]
    refine wpAnyH_take (i := 1) (oi := { dst := some 15, op := Op.move (Operand.tmp 1), type := 3, pos := "source.go:136", after := #[], guard := none }) (v := ?_) rfl (by kernel_rfl) (by kernel_rfl) (by kernel_rfl) (fun _ _ _ h => h) (Or.inl ⟨by rfl, ?_⟩) (HGd.out.c0) ?_
    rotate_left 1
    · intro w hSw
      try dsimp only at hSw
      go_simp
      first
        | done
        | with_reducible rfl
        | rw [if_neg (by omega)]
    try simp only [Act.put, List.setIfInBounds_toArray, List.set_cons_zero, List.set_cons_succ]
    refine wpAnyH_take (i := 2) (oi := { dst := some 16, op := Op.binOp BinOp.sub 3 (Operand.tmp 15) (Operand.const (Value.int IntKind.i64 1)) 3, type := 3, pos := "source.go:136", after := #[{ on := 1, ground := Ground.data }], guard := none }) (v := ?_) rfl (by kernel_rfl) (by kernel_rfl) (by kernel_rfl) (fun _ _ _ h => h) (Or.inl ⟨by rfl, ?_⟩) (HGd.out.c0) ?_
    rotate_left 1
    · intro w hSw
      try dsimp only at hSw
      go_simp
      first
        | done
        | with_reducible rfl
        | rw [if_neg (by omega)]
    try simp only [Act.put, List.setIfInBounds_toArray, List.set_cons_zero, List.set_cons_succ]
    refine wpAnyH_take (i := 6) (oi := { dst := some 20, op := Op.move (Operand.tmp 0), type := 45, pos := "source.go:136", after := #[], guard := none }) (v := ?_) rfl (by kernel_rfl) (by kernel_rfl) (by kernel_rfl) (fun _ _ _ h => h) (Or.inl ⟨by rfl, ?_⟩) (HGd.out.c0) ?_
    rotate_left 1
    · intro w hSw
      try dsimp only at hSw
      go_simp
      first
        | done
        | with_reducible rfl
        | rw [if_neg (by omega)]
    try simp only [Act.put, List.setIfInBounds_toArray, List.set_cons_zero, List.set_cons_succ]
    refine wpAnyH_take (i := 7) (oi := { dst := some 21, op := Op.nilCheck (Operand.tmp 20), type := 0, pos := "source.go:136", after := #[{ on := 6, ground := Ground.data }], guard := none }) (v := ?_) rfl (by kernel_rfl) (by kernel_rfl) (by kernel_rfl) (fun _ _ _ h => h) (Or.inl ⟨by rfl, ?_⟩) (HGd.out.c0) ?_
    rotate_left 1
    · intro w hSw
      try dsimp only at hSw
      go_simp
      first
        | done
        | with_reducible rfl
        | rw [if_neg (by omega)]
    try simp only [Act.put, List.setIfInBounds_toArray, List.set_cons_zero, List.set_cons_succ]
    refine wpAnyH_take (i := 8) (oi := { dst := some 22, op := Op.fieldAddr 47 (Operand.tmp 21) 0, type := 0, pos := "source.go:136", after := #[{ on := 7, ground := Ground.data }], guard := none }) (v := ?_) rfl (by kernel_rfl) (by kernel_rfl) (by kernel_rfl) (fun _ _ _ h => h) (Or.inl ⟨by rfl, ?_⟩) (HGd.out.c0) ?_
    rotate_left 1
    · intro w hSw
      try dsimp only at hSw
      go_simp
      first
        | done
        | with_reducible rfl
        | rw [if_neg (by omega)]
    try simp only [Act.put, List.setIfInBounds_toArray, List.set_cons_zero, List.set_cons_succ]
    refine wpAnyH_take (i := 9) (oi := { dst := some 23, op := Op.load 40 (Operand.tmp 22), type := 40, pos := "source.go:136", after := #[{ on := 8, ground := Ground.data }], guard := none }) (v := ?_) rfl (by kernel_rfl) (by kernel_rfl) (by kernel_rfl) (fun _ _ _ h => h) (Or.inl ⟨by rfl, ?_⟩) (HGd.out.c0) ?_
    rotate_left 1
    · intro w hSw
      try dsimp only at hSw
      go_simp
      first
        | done
        | with_reducible rfl
        | rw [if_neg (by omega)]
    try simp only [Act.put, List.setIfInBounds_toArray, List.set_cons_zero, List.set_cons_succ]
    refine wpAnyH_take (i := 14) (oi := { dst := some 28, op := Op.move (Operand.tmp 0), type := 45, pos := "source.go:136", after := #[], guard := none }) (v := ?_) rfl (by kernel_rfl) (by kernel_rfl) (by kernel_rfl) (fun _ _ _ h => h) (Or.inl ⟨by rfl, ?_⟩) (HGd.out.c0) ?_
    rotate_left 1
    · intro w hSw
      try dsimp only at hSw
      go_simp
      first
        | done
        | with_reducible rfl
        | rw [if_neg (by omega)]
    try simp only [Act.put, List.setIfInBounds_toArray, List.set_cons_zero, List.set_cons_succ]
    refine wpAnyH_take (i := 15) (oi := { dst := some 29, op := Op.move (Operand.tmp 1), type := 3, pos := "source.go:136", after := #[], guard := none }) (v := ?_) rfl (by kernel_rfl) (by kernel_rfl) (by kernel_rfl) (fun _ _ _ h => h) (Or.inl ⟨by rfl, ?_⟩) (HGd.out.c0) ?_
    rotate_left 1
    · intro w hSw
      try dsimp only at hSw
      go_simp
      first
        | done
        | with_reducible rfl
        | rw [if_neg (by omega)]
    try simp only [Act.put, List.setIfInBounds_toArray, List.set_cons_zero, List.set_cons_succ]
    refine wpAnyH_take (i := 16) (oi := { dst := some 30, op := Op.binOp BinOp.sub 3 (Operand.tmp 29) (Operand.const (Value.int IntKind.i64 1)) 3, type := 3, pos := "source.go:136", after := #[{ on := 15, ground := Ground.data }], guard := none }) (v := ?_) rfl (by kernel_rfl) (by kernel_rfl) (by kernel_rfl) (fun _ _ _ h => h) (Or.inl ⟨by rfl, ?_⟩) (HGd.out.c0) ?_
    rotate_left 1
    · intro w hSw
      try dsimp only at hSw
      go_simp
      first
        | done
        | with_reducible rfl
        | rw [if_neg (by omega)]
    try simp only [Act.put, List.setIfInBounds_toArray, List.set_cons_zero, List.set_cons_succ]
    refine wpAnyH_ready (rs := [3, 5]) (by kernel_rfl) (by simp) ?_
    refine AllReadyH.cons (o := { dst := some 17, op := Op.call { callee := Callee.value (Operand.func 17), args := #[Operand.tmp 14, Operand.const (Value.int IntKind.i64 0), Operand.tmp 16], argTypes := #[45, 3, 3] }, type := 9, pos := "source.go:136", after := #[{ on := 0, ground := Ground.data }, { on := 2, ground := Ground.data }], guard := none }) rfl (fun K hK => ?_) (AllReadyH.cons (o := { dst := some 19, op := Op.buildSlice 44 5 #[(0, Operand.const (Value.string { data := #[32, 60, 32] })), (1, Operand.const (Value.string { data := #[32, 60, 61, 32] })), (2, Operand.const (Value.string { data := #[32, 61, 61, 32] })), (3, Operand.const (Value.string { data := #[32, 33, 61, 32] })), (4, Operand.const (Value.string { data := #[32, 62, 61, 32] }))], type := 44, pos := "source.go:136", after := #[], guard := none }) rfl (fun K hK => ?_) (AllReadyH.nil))
    · go_simp
      go_at_call 17
      refine (HE.out _ _ _ _ _ _ HGd.out HN.out (by omega)).mono ?_
      rintro e w50 ⟨s50, f50, rfl, hs50, hf50, hg50, hG50, hK50⟩
      have HG50 := Lib.hid hG50
      have HK50 := Lib.hid (HKd.out.trans hK50)
      clear hG50 hK50
      try dsimp only
      have hb50 : s50.size ≤ 500 := by omega
      refine hK.out _ _ (HG50.out.c0) (fun _ => ?_)
      clear hK K
      try simp only [Act.put, List.setIfInBounds_toArray, List.set_cons_zero, List.set_cons_succ]
      refine wpAnyH_take (i := 4) (oi := { dst := some 18, op := Op.binOp BinOp.add 9 (Operand.const (Value.string { data := #[40] })) (Operand.tmp 17) 9, type := 9, pos := "source.go:136", after := #[{ on := 3, ground := Ground.data }], guard := none }) (v := ?_) rfl (by kernel_rfl) (by kernel_rfl) (by kernel_rfl) (fun _ _ _ h => h) (Or.inl ⟨by rfl, ?_⟩) (HG50.out.c0) ?_
      rotate_left 1
      · intro w hSw
        try dsimp only at hSw
        go_simp
        first
          | done
          | with_reducible rfl
          | rw [if_neg (by omega)]
      try simp only [Act.put, List.setIfInBounds_toArray, List.set_cons_zero, List.set_cons_succ]
      refine wpAnyH_ready (rs := [5, 10]) (by kernel_rfl) (by simp) ?_
      refine AllReadyH.cons (o := { dst := some 19, op := Op.buildSlice 44 5 #[(0, Operand.const (Value.string { data := #[32, 60, 32] })), (1, Operand.const (Value.string { data := #[32, 60, 61, 32] })), (2, Operand.const (Value.string { data := #[32, 61, 61, 32] })), (3, Operand.const (Value.string { data := #[32, 33, 61, 32] })), (4, Operand.const (Value.string { data := #[32, 62, 61, 32] }))], type := 44, pos := "source.go:136", after := #[], guard := none }) rfl (fun K hK => ?_) (AllReadyH.cons (o := { dst := some 24, op := Op.call { callee := Callee.value (Operand.func 14), args := #[Operand.tmp 23, Operand.const (Value.int IntKind.i64 5)], argTypes := #[40, 3] }, type := 3, pos := "source.go:136", after := #[{ on := 9, ground := Ground.data }, { on := 3, ground := Ground.chain }], guard := none }) rfl (fun K hK => ?_) (AllReadyH.nil))
      · go_simp
        try dsimp only
        have HG51 := Lib.hid (HG50.out.more (strBlock tlI))
        have HK51 := Lib.hid (HK50.out.alloc HL.out (strBlock tlI))
        have HB51 : Hid ((w50.alloc (strBlock tlI)).heap[w50.heap.size]? = some (strBlock tlI)) := heap_alloc_new w50 _
        have hgb51 := HG50.out.gl
        refine hK.out _ (w50.alloc (strBlock tlI)) (HG51.out.c0) (fun _ => ?_)
        clear hK K
        generalize hwe51 : w50.alloc (strBlock tlI) = wl51 at *
        clear hwe51
        generalize hbe51 : w50.heap.size = bl51 at *
        clear hbe51
        try simp only [Act.put, List.setIfInBounds_toArray, List.set_cons_zero, List.set_cons_succ]
        refine wpAnyH_ready (rs := [10]) (by kernel_rfl) (by simp) ?_
        refine AllReadyH.cons (o := { dst := some 24, op := Op.call { callee := Callee.value (Operand.func 14), args := #[Operand.tmp 23, Operand.const (Value.int IntKind.i64 5)], argTypes := #[40, 3] }, type := 3, pos := "source.go:136", after := #[{ on := 9, ground := Ground.data }, { on := 3, ground := Ground.chain }], guard := none }) rfl (fun K hK => ?_) (AllReadyH.nil)
        go_simp
        go_at_call 14
        refine (gnext 5 5 rfl (by decide) (by decide) HG51.out HN.out).mono ?_
        rintro e w52 ⟨r52, hr52, rfl, hG52, hK52⟩
        have HG52 := Lib.hid hG52
        have HK52 := Lib.hid (HK51.out.trans (hK52.mono fun _ q => .inl q))
        have HB52 := Lib.hid ((hK52.block _ (.inr rfl)).trans HB51.out)
        clear hG52 hK52
        try dsimp only
        have hx52 : (0 : Int) ≤ (r52 : Int) := by omega
        have hy52 : (r52 : Int) < 5 := by omega
        have hd52 := digS_size r52
        refine hK.out _ _ (HG52.out.c0) (fun _ => ?_)
        clear hK K
        try simp only [Act.put, List.setIfInBounds_toArray, List.set_cons_zero, List.set_cons_succ]
        refine wpAnyH_take (i := 11) (oi := { dst := some 25, op := Op.indexAddr 44 (Operand.tmp 19) (Operand.tmp 24), type := 0, pos := "source.go:136", after := #[{ on := 5, ground := Ground.data }, { on := 10, ground := Ground.data }], guard := none }) (v := ?_) rfl (by kernel_rfl) (by kernel_rfl) (by kernel_rfl) (fun _ _ _ h => h) (Or.inl ⟨by rfl, ?_⟩) (HG52.out.c0) ?_
        rotate_left 1
        · intro w hSw
          try dsimp only at hSw
          go_simp
          first
            | done
            | with_reducible rfl
            | rw [if_neg (by omega)]
        try simp only [Act.put, List.setIfInBounds_toArray, List.set_cons_zero, List.set_cons_succ]
        have hl53 : w52.cell? ⟨bl51, r52, none⟩ = some (.string (S (tlI.getD r52 []))) := str_cell HB52.out r52 (show r52 < tlI.length from hr52)
        have hle53 := tlI_le r52 hr52
        have hlc53 : Hid (∀ W : World, W.heap[bl51]? = some (strBlock tlI) → W.cell? ⟨bl51, r52, none⟩ = some (.string (S (tlI.getD r52 [])))) := Lib.hid (fun W q => str_cell q r52 (show r52 < tlI.length from hr52))
        generalize tlI.getD r52 [] = st53 at *
        refine wpAnyH_stronger (S' := fun W => (W.cell? ⟨X.wb, 0, none⟩ = some (.pointer (some ⟨X.g, 0, none⟩))) ∧ W.cell? ⟨bl51, r52, none⟩ = some (.string (S st53))) (fun _ q => q.1) ?_
        have hlS53 : (S st53).size ≤ 10 := by rw [S_size]; omega
        refine wpAnyH_take (i := 12) (oi := { dst := some 26, op := Op.load 9 (Operand.tmp 25), type := 9, pos := "source.go:136", after := #[{ on := 11, ground := Ground.data }], guard := none }) (v := ?_) rfl (by kernel_rfl) (by kernel_rfl) (by kernel_rfl) (fun _ _ _ h => h) (Or.inl ⟨by rfl, ?_⟩) (⟨HG52.out.c0, hl53⟩) ?_
        rotate_left 1
        · intro w hSw
          (try dsimp only at hSw); have hSa := hSw.1; have hSb := hSw.2; clear hSw
          go_simp
          first
            | done
            | with_reducible rfl
            | rw [if_neg (by omega)]
        try simp only [Act.put, List.setIfInBounds_toArray, List.set_cons_zero, List.set_cons_succ]
        refine wpAnyH_take (i := 13) (oi := { dst := some 27, op := Op.binOp BinOp.add 9 (Operand.tmp 18) (Operand.tmp 26) 9, type := 9, pos := "source.go:136", after := #[{ on := 4, ground := Ground.data }, { on := 12, ground := Ground.data }], guard := none }) (v := ?_) rfl (by kernel_rfl) (by kernel_rfl) (by kernel_rfl) (fun _ _ _ h => h) (Or.inl ⟨by rfl, ?_⟩) (⟨HG52.out.c0, hl53⟩) ?_
        rotate_left 1
        · intro w hSw
          (try dsimp only at hSw); have hSa := hSw.1; have hSb := hSw.2; clear hSw
          go_simp
          first
            | done
            | with_reducible rfl
            | rw [if_neg (by omega)]
        try simp only [Act.put, List.setIfInBounds_toArray, List.set_cons_zero, List.set_cons_succ]
        refine wpAnyH_ready (rs := [17]) (by kernel_rfl) (by simp) ?_
        refine AllReadyH.cons (o := { dst := some 31, op := Op.call { callee := Callee.value (Operand.func 17), args := #[Operand.tmp 28, Operand.const (Value.int IntKind.i64 0), Operand.tmp 30], argTypes := #[45, 3, 3] }, type := 9, pos := "source.go:136", after := #[{ on := 14, ground := Ground.data }, { on := 16, ground := Ground.data }, { on := 10, ground := Ground.chain }], guard := none }) rfl (fun K hK => ?_) (AllReadyH.nil)
        go_simp
        go_at_call 17
        refine (HE.out _ _ _ _ _ _ HG52.out HN.out (by omega)).mono ?_
        rintro e w54 ⟨s54, f54, rfl, hs54, hf54, hg54, hG54, hK54⟩
        have HG54 := Lib.hid hG54
        have HK54 := Lib.hid (HK52.out.trans (hK54.mono fun _ q => .inl q))
        have HB54 := Lib.hid ((hK54.block _ (.inr rfl)).trans HB52.out)
        have hl54 := hlc53.out _ HB54.out
        clear hG54 hK54
        try dsimp only
        have hb54 : s54.size ≤ 500 := by omega
        refine hK.out _ _ (⟨HG54.out.c0, hl54⟩) (fun _ => ?_)
        clear hK K
        try simp only [Act.put, List.setIfInBounds_toArray, List.set_cons_zero, List.set_cons_succ]
        refine wpAnyH_take (i := 18) (oi := { dst := some 32, op := Op.binOp BinOp.add 9 (Operand.tmp 27) (Operand.tmp 31) 9, type := 9, pos := "source.go:136", after := #[{ on := 13, ground := Ground.data }, { on := 17, ground := Ground.data }], guard := none }) (v := ?_) rfl (by kernel_rfl) (by kernel_rfl) (by kernel_rfl) (fun _ _ _ h => h) (Or.inl ⟨by rfl, ?_⟩) (⟨HG54.out.c0, hl54⟩) ?_
        rotate_left 1
        · intro w hSw
          (try dsimp only at hSw); have hSa := hSw.1; have hSb := hSw.2; clear hSw
          go_simp
          first
            | done
            | with_reducible rfl
            | rw [if_neg (by omega)]
        try simp only [Act.put, List.setIfInBounds_toArray, List.set_cons_zero, List.set_cons_succ]
        refine wpAnyH_take (i := 19) (oi := { dst := some 33, op := Op.binOp BinOp.add 9 (Operand.tmp 32) (Operand.const (Value.string { data := #[41] })) 9, type := 9, pos := "source.go:136", after := #[{ on := 18, ground := Ground.data }], guard := none }) (v := ?_) rfl (by kernel_rfl) (by kernel_rfl) (by kernel_rfl) (fun _ _ _ h => h) (Or.inl ⟨by rfl, ?_⟩) (⟨HG54.out.c0, hl54⟩) ?_
        rotate_left 1
        · intro w hSw
          (try dsimp only at hSw); have hSa := hSw.1; have hSb := hSw.2; clear hSw
          go_simp
          first
            | done
            | with_reducible rfl
            | rw [if_neg (by omega)]
        try simp only [Act.put, List.setIfInBounds_toArray, List.set_cons_zero, List.set_cons_succ]
        refine wpAnyH_take (i := 20) (oi := { dst := some 4, op := Op.assign (Operand.tmp 33), type := 9, pos := "source.go:136", after := #[{ on := 19, ground := Ground.data }, { on := 17, ground := Ground.chain }, { on := 0, ground := Ground.phase }, { on := 1, ground := Ground.phase }, { on := 2, ground := Ground.phase }, { on := 3, ground := Ground.phase }, { on := 4, ground := Ground.phase }, { on := 5, ground := Ground.phase }, { on := 6, ground := Ground.phase }, { on := 7, ground := Ground.phase }, { on := 8, ground := Ground.phase }, { on := 9, ground := Ground.phase }, { on := 10, ground := Ground.phase }, { on := 11, ground := Ground.phase }, { on := 12, ground := Ground.phase }, { on := 13, ground := Ground.phase }, { on := 14, ground := Ground.phase }, { on := 15, ground := Ground.phase }, { on := 16, ground := Ground.phase }, { on := 17, ground := Ground.phase }, { on := 18, ground := Ground.phase }, { on := 19, ground := Ground.phase }], guard := none }) (v := ?_) rfl (by kernel_rfl) (by kernel_rfl) (by kernel_rfl) (fun _ _ _ h => h) (Or.inl ⟨by rfl, ?_⟩) (⟨HG54.out.c0, hl54⟩) ?_
        rotate_left 1
        · intro w hSw
          (try dsimp only at hSw); have hSa := hSw.1; have hSb := hSw.2; clear hSw
          go_simp
          first
            | done
            | with_reducible rfl
            | rw [if_neg (by omega)]
        try simp only [Act.put, List.setIfInBounds_toArray, List.set_cons_zero, List.set_cons_succ]
        refine wpAnyH_done (by kernel_rfl) ?_ _
        refine NoPanic.normal ?_
        go_wp2_with fail
        go_ret
        exact ⟨_, f54, rfl, by (try simp [ByteArray.size_append, size_lit]); omega, by omega, by omega, (HG54.out.back hgb51), HK54.out⟩
      · go_simp
        go_at_call 14
        refine (gnext 5 5 rfl (by decide) (by decide) HG50.out HN.out).mono ?_
        rintro e w55 ⟨r55, hr55, rfl, hG55, hK55⟩
        have HG55 := Lib.hid hG55
        have HK55 := Lib.hid (HK50.out.trans hK55)
        clear hG55 hK55
        try dsimp only
        have hx55 : (0 : Int) ≤ (r55 : Int) := by omega
        have hy55 : (r55 : Int) < 5 := by omega
        have hd55 := digS_size r55
        refine hK.out _ _ (HG55.out.c0) (fun _ => ?_)
        clear hK K
        try simp only [Act.put, List.setIfInBounds_toArray, List.set_cons_zero, List.set_cons_succ]
        refine wpAnyH_ready (rs := [5, 17]) (by kernel_rfl) (by simp) ?_
        refine AllReadyH.cons (o := { dst := some 19, op := Op.buildSlice 44 5 #[(0, Operand.const (Value.string { data := #[32, 60, 32] })), (1, Operand.const (Value.string { data := #[32, 60, 61, 32] })), (2, Operand.const (Value.string { data := #[32, 61, 61, 32] })), (3, Operand.const (Value.string { data := #[32, 33, 61, 32] })), (4, Operand.const (Value.string { data := #[32, 62, 61, 32] }))], type := 44, pos := "source.go:136", after := #[], guard := none }) rfl (fun K hK => ?_) (AllReadyH.cons (o := { dst := some 31, op := Op.call { callee := Callee.value (Operand.func 17), args := #[Operand.tmp 28, Operand.const (Value.int IntKind.i64 0), Operand.tmp 30], argTypes := #[45, 3, 3] }, type := 9, pos := "source.go:136", after := #[{ on := 14, ground := Ground.data }, { on := 16, ground := Ground.data }, { on := 10, ground := Ground.chain }], guard := none }) rfl (fun K hK => ?_) (AllReadyH.nil))
        · go_simp
          try dsimp only
          have HG56 := Lib.hid (HG55.out.more (strBlock tlI))
          have HK56 := Lib.hid (HK55.out.alloc HL.out (strBlock tlI))
          have HB56 : Hid ((w55.alloc (strBlock tlI)).heap[w55.heap.size]? = some (strBlock tlI)) := heap_alloc_new w55 _
          have hgb56 := HG55.out.gl
          refine hK.out _ (w55.alloc (strBlock tlI)) (HG56.out.c0) (fun _ => ?_)
          clear hK K
          generalize hwe56 : w55.alloc (strBlock tlI) = wl56 at *
          clear hwe56
          generalize hbe56 : w55.heap.size = bl56 at *
          clear hbe56
          try simp only [Act.put, List.setIfInBounds_toArray, List.set_cons_zero, List.set_cons_succ]
          refine wpAnyH_take (i := 11) (oi := { dst := some 25, op := Op.indexAddr 44 (Operand.tmp 19) (Operand.tmp 24), type := 0, pos := "source.go:136", after := #[{ on := 5, ground := Ground.data }, { on := 10, ground := Ground.data }], guard := none }) (v := ?_) rfl (by kernel_rfl) (by kernel_rfl) (by kernel_rfl) (fun _ _ _ h => h) (Or.inl ⟨by rfl, ?_⟩) (HG56.out.c0) ?_
          rotate_left 1
          · intro w hSw
            try dsimp only at hSw
            go_simp
            first
              | done
              | with_reducible rfl
              | rw [if_neg (by omega)]
          try simp only [Act.put, List.setIfInBounds_toArray, List.set_cons_zero, List.set_cons_succ]
          have hl57 : wl56.cell? ⟨bl56, r55, none⟩ = some (.string (S (tlI.getD r55 []))) := str_cell HB56.out r55 (show r55 < tlI.length from hr55)
          have hle57 := tlI_le r55 hr55
          have hlc57 : Hid (∀ W : World, W.heap[bl56]? = some (strBlock tlI) → W.cell? ⟨bl56, r55, none⟩ = some (.string (S (tlI.getD r55 [])))) := Lib.hid (fun W q => str_cell q r55 (show r55 < tlI.length from hr55))
          generalize tlI.getD r55 [] = st57 at *
          refine wpAnyH_stronger (S' := fun W => (W.cell? ⟨X.wb, 0, none⟩ = some (.pointer (some ⟨X.g, 0, none⟩))) ∧ W.cell? ⟨bl56, r55, none⟩ = some (.string (S st57))) (fun _ q => q.1) ?_
          have hlS57 : (S st57).size ≤ 10 := by rw [S_size]; omega
          refine wpAnyH_take (i := 12) (oi := { dst := some 26, op := Op.load 9 (Operand.tmp 25), type := 9, pos := "source.go:136", after := #[{ on := 11, ground := Ground.data }], guard := none }) (v := ?_) rfl (by kernel_rfl) (by kernel_rfl) (by kernel_rfl) (fun _ _ _ h => h) (Or.inl ⟨by rfl, ?_⟩) (⟨HG56.out.c0, hl57⟩) ?_
          rotate_left 1
          · intro w hSw
            (try dsimp only at hSw); have hSa := hSw.1; have hSb := hSw.2; clear hSw
            go_simp
            first
              | done
              | with_reducible rfl
              | rw [if_neg (by omega)]
          try simp only [Act.put, List.setIfInBounds_toArray, List.set_cons_zero, List.set_cons_succ]
          refine wpAnyH_take (i := 13) (oi := { dst := some 27, op := Op.binOp BinOp.add 9 (Operand.tmp 18) (Operand.tmp 26) 9, type := 9, pos := "source.go:136", after := #[{ on := 4, ground := Ground.data }, { on := 12, ground := Ground.data }], guard := none }) (v := ?_) rfl (by kernel_rfl) (by kernel_rfl) (by kernel_rfl) (fun _ _ _ h => h) (Or.inl ⟨by rfl, ?_⟩) (⟨HG56.out.c0, hl57⟩) ?_
          rotate_left 1
          · intro w hSw
            (try dsimp only at hSw); have hSa := hSw.1; have hSb := hSw.2; clear hSw
            go_simp
            first
              | done
              | with_reducible rfl
              | rw [if_neg (by omega)]
          try simp only [Act.put, List.setIfInBounds_toArray, List.set_cons_zero, List.set_cons_succ]
          refine wpAnyH_ready (rs := [17]) (by kernel_rfl) (by simp) ?_
          refine AllReadyH.cons (o := { dst := some 31, op := Op.call { callee := Callee.value (Operand.func 17), args := #[Operand.tmp 28, Operand.const (Value.int IntKind.i64 0), Operand.tmp 30], argTypes := #[45, 3, 3] }, type := 9, pos := "source.go:136", after := #[{ on := 14, ground := Ground.data }, { on := 16, ground := Ground.data }, { on := 10, ground := Ground.chain }], guard := none }) rfl (fun K hK => ?_) (AllReadyH.nil)
          go_simp
          go_at_call 17
          refine (HE.out _ _ _ _ _ _ HG56.out HN.out (by omega)).mono ?_
          rintro e w58 ⟨s58, f58, rfl, hs58, hf58, hg58, hG58, hK58⟩
          have HG58 := Lib.hid hG58
          have HK58 := Lib.hid (HK56.out.trans (hK58.mono fun _ q => .inl q))
          have HB58 := Lib.hid ((hK58.block _ (.inr rfl)).trans HB56.out)
          have hl58 := hlc57.out _ HB58.out
          clear hG58 hK58
          try dsimp only
          have hb58 : s58.size ≤ 500 := by omega
          refine hK.out _ _ (⟨HG58.out.c0, hl58⟩) (fun _ => ?_)
          clear hK K
          try simp only [Act.put, List.setIfInBounds_toArray, List.set_cons_zero, List.set_cons_succ]
          refine wpAnyH_take (i := 18) (oi := { dst := some 32, op := Op.binOp BinOp.add 9 (Operand.tmp 27) (Operand.tmp 31) 9, type := 9, pos := "source.go:136", after := #[{ on := 13, ground := Ground.data }, { on := 17, ground := Ground.data }], guard := none }) (v := ?_) rfl (by kernel_rfl) (by kernel_rfl) (by kernel_rfl) (fun _ _ _ h => h) (Or.inl ⟨by rfl, ?_⟩) (⟨HG58.out.c0, hl58⟩) ?_
          rotate_left 1
          · intro w hSw
            (try dsimp only at hSw); have hSa := hSw.1; have hSb := hSw.2; clear hSw
            go_simp
            first
              | done
              | with_reducible rfl
              | rw [if_neg (by omega)]
          try simp only [Act.put, List.setIfInBounds_toArray, List.set_cons_zero, List.set_cons_succ]
          refine wpAnyH_take (i := 19) (oi := { dst := some 33, op := Op.binOp BinOp.add 9 (Operand.tmp 32) (Operand.const (Value.string { data := #[41] })) 9, type := 9, pos := "source.go:136", after := #[{ on := 18, ground := Ground.data }], guard := none }) (v := ?_) rfl (by kernel_rfl) (by kernel_rfl) (by kernel_rfl) (fun _ _ _ h => h) (Or.inl ⟨by rfl, ?_⟩) (⟨HG58.out.c0, hl58⟩) ?_
          rotate_left 1
          · intro w hSw
            (try dsimp only at hSw); have hSa := hSw.1; have hSb := hSw.2; clear hSw
            go_simp
            first
              | done
              | with_reducible rfl
              | rw [if_neg (by omega)]
          try simp only [Act.put, List.setIfInBounds_toArray, List.set_cons_zero, List.set_cons_succ]
          refine wpAnyH_take (i := 20) (oi := { dst := some 4, op := Op.assign (Operand.tmp 33), type := 9, pos := "source.go:136", after := #[{ on := 19, ground := Ground.data }, { on := 17, ground := Ground.chain }, { on := 0, ground := Ground.phase }, { on := 1, ground := Ground.phase }, { on := 2, ground := Ground.phase }, { on := 3, ground := Ground.phase }, { on := 4, ground := Ground.phase }, { on := 5, ground := Ground.phase }, { on := 6, ground := Ground.phase }, { on := 7, ground := Ground.phase }, { on := 8, ground := Ground.phase }, { on := 9, ground := Ground.phase }, { on := 10, ground := Ground.phase }, { on := 11, ground := Ground.phase }, { on := 12, ground := Ground.phase }, { on := 13, ground := Ground.phase }, { on := 14, ground := Ground.phase }, { on := 15, ground := Ground.phase }, { on := 16, ground := Ground.phase }, { on := 17, ground := Ground.phase }, { on := 18, ground := Ground.phase }, { on := 19, ground := Ground.phase }], guard := none }) (v := ?_) rfl (by kernel_rfl) (by kernel_rfl) (by kernel_rfl) (fun _ _ _ h => h) (Or.inl ⟨by rfl, ?_⟩) (⟨HG58.out.c0, hl58⟩) ?_
          rotate_left 1
          · intro w hSw
            (try dsimp only at hSw); have hSa := hSw.1; have hSb := hSw.2; clear hSw
            go_simp
            first
              | done
              | with_reducible rfl
              | rw [if_neg (by omega)]
          try simp only [Act.put, List.setIfInBounds_toArray, List.set_cons_zero, List.set_cons_succ]
          refine wpAnyH_done (by kernel_rfl) ?_ _
          refine NoPanic.normal ?_
          go_wp2_with fail
          go_ret
          exact ⟨_, f58, rfl, by (try simp [ByteArray.size_append, size_lit]); omega, by omega, by omega, (HG58.out.back hgb56), HK58.out⟩
        · go_simp
          go_at_call 17
          refine (HE.out _ _ _ _ _ _ HG55.out HN.out (by omega)).mono ?_
          rintro e w59 ⟨s59, f59, rfl, hs59, hf59, hg59, hG59, hK59⟩
          have HG59 := Lib.hid hG59
          have HK59 := Lib.hid (HK55.out.trans hK59)
          clear hG59 hK59
          try dsimp only
          have hb59 : s59.size ≤ 500 := by omega
          refine hK.out _ _ (HG59.out.c0) (fun _ => ?_)
          clear hK K
          try simp only [Act.put, List.setIfInBounds_toArray, List.set_cons_zero, List.set_cons_succ]
          refine wpAnyH_ready (rs := [5]) (by kernel_rfl) (by simp) ?_
          refine AllReadyH.cons (o := { dst := some 19, op := Op.buildSlice 44 5 #[(0, Operand.const (Value.string { data := #[32, 60, 32] })), (1, Operand.const (Value.string { data := #[32, 60, 61, 32] })), (2, Operand.const (Value.string { data := #[32, 61, 61, 32] })), (3, Operand.const (Value.string { data := #[32, 33, 61, 32] })), (4, Operand.const (Value.string { data := #[32, 62, 61, 32] }))], type := 44, pos := "source.go:136", after := #[], guard := none }) rfl (fun K hK => ?_) (AllReadyH.nil)
          go_simp
          try dsimp only
          have HG60 := Lib.hid (HG59.out.more (strBlock tlI))
          have HK60 := Lib.hid (HK59.out.alloc HL.out (strBlock tlI))
          have HB60 : Hid ((w59.alloc (strBlock tlI)).heap[w59.heap.size]? = some (strBlock tlI)) := heap_alloc_new w59 _
          have hgb60 := HG59.out.gl
          refine hK.out _ (w59.alloc (strBlock tlI)) (HG60.out.c0) (fun _ => ?_)
          clear hK K
          generalize hwe60 : w59.alloc (strBlock tlI) = wl60 at *
          clear hwe60
          generalize hbe60 : w59.heap.size = bl60 at *
          clear hbe60
          try simp only [Act.put, List.setIfInBounds_toArray, List.set_cons_zero, List.set_cons_succ]
          refine wpAnyH_take (i := 11) (oi := { dst := some 25, op := Op.indexAddr 44 (Operand.tmp 19) (Operand.tmp 24), type := 0, pos := "source.go:136", after := #[{ on := 5, ground := Ground.data }, { on := 10, ground := Ground.data }], guard := none }) (v := ?_) rfl (by kernel_rfl) (by kernel_rfl) (by kernel_rfl) (fun _ _ _ h => h) (Or.inl ⟨by rfl, ?_⟩) (HG60.out.c0) ?_
          rotate_left 1
          · intro w hSw
            try dsimp only at hSw
            go_simp
            first
              | done
              | with_reducible rfl
              | rw [if_neg (by omega)]
          try simp only [Act.put, List.setIfInBounds_toArray, List.set_cons_zero, List.set_cons_succ]
          have hl61 : wl60.cell? ⟨bl60, r55, none⟩ = some (.string (S (tlI.getD r55 []))) := str_cell HB60.out r55 (show r55 < tlI.length from hr55)
          have hle61 := tlI_le r55 hr55
          have hlc61 : Hid (∀ W : World, W.heap[bl60]? = some (strBlock tlI) → W.cell? ⟨bl60, r55, none⟩ = some (.string (S (tlI.getD r55 [])))) := Lib.hid (fun W q => str_cell q r55 (show r55 < tlI.length from hr55))
          generalize tlI.getD r55 [] = st61 at *
          refine wpAnyH_stronger (S' := fun W => (W.cell? ⟨X.wb, 0, none⟩ = some (.pointer (some ⟨X.g, 0, none⟩))) ∧ W.cell? ⟨bl60, r55, none⟩ = some (.string (S st61))) (fun _ q => q.1) ?_
          have hlS61 : (S st61).size ≤ 10 := by rw [S_size]; omega
          refine wpAnyH_take (i := 12) (oi := { dst := some 26, op := Op.load 9 (Operand.tmp 25), type := 9, pos := "source.go:136", after := #[{ on := 11, ground := Ground.data }], guard := none }) (v := ?_) rfl (by kernel_rfl) (by kernel_rfl) (by kernel_rfl) (fun _ _ _ h => h) (Or.inl ⟨by rfl, ?_⟩) (⟨HG60.out.c0, hl61⟩) ?_
          rotate_left 1
          · intro w hSw
            (try dsimp only at hSw); have hSa := hSw.1; have hSb := hSw.2; clear hSw
            go_simp
            first
              | done
              | with_reducible rfl
              | rw [if_neg (by omega)]
          try simp only [Act.put, List.setIfInBounds_toArray, List.set_cons_zero, List.set_cons_succ]
          refine wpAnyH_take (i := 13) (oi := { dst := some 27, op := Op.binOp BinOp.add 9 (Operand.tmp 18) (Operand.tmp 26) 9, type := 9, pos := "source.go:136", after := #[{ on := 4, ground := Ground.data }, { on := 12, ground := Ground.data }], guard := none }) (v := ?_) rfl (by kernel_rfl) (by kernel_rfl) (by kernel_rfl) (fun _ _ _ h => h) (Or.inl ⟨by rfl, ?_⟩) (⟨HG60.out.c0, hl61⟩) ?_
          rotate_left 1
          · intro w hSw
            (try dsimp only at hSw); have hSa := hSw.1; have hSb := hSw.2; clear hSw
            go_simp
            first
              | done
              | with_reducible rfl
              | rw [if_neg (by omega)]
          try simp only [Act.put, List.setIfInBounds_toArray, List.set_cons_zero, List.set_cons_succ]
          refine wpAnyH_take (i := 18) (oi := { dst := some 32, op := Op.binOp BinOp.add 9 (Operand.tmp 27) (Operand.tmp 31) 9, type := 9, pos := "source.go:136", after := #[{ on := 13, ground := Ground.data }, { on := 17, ground := Ground.data }], guard := none }) (v := ?_) rfl (by kernel_rfl) (by kernel_rfl) (by kernel_rfl) (fun _ _ _ h => h) (Or.inl ⟨by rfl, ?_⟩) (⟨HG60.out.c0, hl61⟩) ?_
          rotate_left 1
          · intro w hSw
            (try dsimp only at hSw); have hSa := hSw.1; have hSb := hSw.2; clear hSw
            go_simp
            first
              | done
              | with_reducible rfl
              | rw [if_neg (by omega)]
          try simp only [Act.put, List.setIfInBounds_toArray, List.set_cons_zero, List.set_cons_succ]
          refine wpAnyH_take (i := 19) (oi := { dst := some 33, op := Op.binOp BinOp.add 9 (Operand.tmp 32) (Operand.const (Value.string { data := #[41] })) 9, type := 9, pos := "source.go:136", after := #[{ on := 18, ground := Ground.data }], guard := none }) (v := ?_) rfl (by kernel_rfl) (by kernel_rfl) (by kernel_rfl) (fun _ _ _ h => h) (Or.inl ⟨by rfl, ?_⟩) (⟨HG60.out.c0, hl61⟩) ?_
          rotate_left 1
          · intro w hSw
            (try dsimp only at hSw); have hSa := hSw.1; have hSb := hSw.2; clear hSw
            go_simp
            first
              | done
              | with_reducible rfl
              | rw [if_neg (by omega)]
          try simp only [Act.put, List.setIfInBounds_toArray, List.set_cons_zero, List.set_cons_succ]
          refine wpAnyH_take (i := 20) (oi := { dst := some 4, op := Op.assign (Operand.tmp 33), type := 9, pos := "source.go:136", after := #[{ on := 19, ground := Ground.data }, { on := 17, ground := Ground.chain }, { on := 0, ground := Ground.phase }, { on := 1, ground := Ground.phase }, { on := 2, ground := Ground.phase }, { on := 3, ground := Ground.phase }, { on := 4, ground := Ground.phase }, { on := 5, ground := Ground.phase }, { on := 6, ground := Ground.phase }, { on := 7, ground := Ground.phase }, { on := 8, ground := Ground.phase }, { on := 9, ground := Ground.phase }, { on := 10, ground := Ground.phase }, { on := 11, ground := Ground.phase }, { on := 12, ground := Ground.phase }, { on := 13, ground := Ground.phase }, { on := 14, ground := Ground.phase }, { on := 15, ground := Ground.phase }, { on := 16, ground := Ground.phase }, { on := 17, ground := Ground.phase }, { on := 18, ground := Ground.phase }, { on := 19, ground := Ground.phase }], guard := none }) (v := ?_) rfl (by kernel_rfl) (by kernel_rfl) (by kernel_rfl) (fun _ _ _ h => h) (Or.inl ⟨by rfl, ?_⟩) (⟨HG60.out.c0, hl61⟩) ?_
          rotate_left 1
          · intro w hSw
            (try dsimp only at hSw); have hSa := hSw.1; have hSb := hSw.2; clear hSw
            go_simp
            first
              | done
              | with_reducible rfl
              | rw [if_neg (by omega)]
          try simp only [Act.put, List.setIfInBounds_toArray, List.set_cons_zero, List.set_cons_succ]
          refine wpAnyH_done (by kernel_rfl) ?_ _
          refine NoPanic.normal ?_
          go_wp2_with fail
          go_ret
          exact ⟨_, f59, rfl, by (try simp [ByteArray.size_append, size_lit]); omega, by omega, by omega, (HG60.out.back hgb60), HK60.out⟩
    · go_simp
      try dsimp only
      have HG62 := Lib.hid (HGd.out.more (strBlock tlI))
      have HK62 := Lib.hid (HKd.out.alloc HL.out (strBlock tlI))
      have HB62 : Hid ((wd.alloc (strBlock tlI)).heap[wd.heap.size]? = some (strBlock tlI)) := heap_alloc_new wd _
      have hgb62 := HGd.out.gl
      refine hK.out _ (wd.alloc (strBlock tlI)) (HG62.out.c0) (fun _ => ?_)
      clear hK K
      generalize hwe62 : wd.alloc (strBlock tlI) = wl62 at *
      clear hwe62
      generalize hbe62 : wd.heap.size = bl62 at *
      clear hbe62
      try simp only [Act.put, List.setIfInBounds_toArray, List.set_cons_zero, List.set_cons_succ]
      refine wpAnyH_ready (rs := [3]) (by kernel_rfl) (by simp) ?_
      refine AllReadyH.cons (o := { dst := some 17, op := Op.call { callee := Callee.value (Operand.func 17), args := #[Operand.tmp 14, Operand.const (Value.int IntKind.i64 0), Operand.tmp 16], argTypes := #[45, 3, 3] }, type := 9, pos := "source.go:136", after := #[{ on := 0, ground := Ground.data }, { on := 2, ground := Ground.data }], guard := none }) rfl (fun K hK => ?_) (AllReadyH.nil)
      go_simp
      go_at_call 17
      refine (HE.out _ _ _ _ _ _ HG62.out HN.out (by omega)).mono ?_
      rintro e w63 ⟨s63, f63, rfl, hs63, hf63, hg63, hG63, hK63⟩
      have HG63 := Lib.hid hG63
      have HK63 := Lib.hid (HK62.out.trans (hK63.mono fun _ q => .inl q))
      have HB63 := Lib.hid ((hK63.block _ (.inr rfl)).trans HB62.out)
      clear hG63 hK63
      try dsimp only
      have hb63 : s63.size ≤ 500 := by omega
      refine hK.out _ _ (HG63.out.c0) (fun _ => ?_)
      clear hK K
      try simp only [Act.put, List.setIfInBounds_toArray, List.set_cons_zero, List.set_cons_succ]
      refine wpAnyH_take (i := 4) (oi := { dst := some 18, op := Op.binOp BinOp.add 9 (Operand.const (Value.string { data := #[40] })) (Operand.tmp 17) 9, type := 9, pos := "source.go:136", after := #[{ on := 3, ground := Ground.data }], guard := none }) (v := ?_) rfl (by kernel_rfl) (by kernel_rfl) (by kernel_rfl) (fun _ _ _ h => h) (Or.inl ⟨by rfl, ?_⟩) (HG63.out.c0) ?_
      rotate_left 1
      · intro w hSw
        try dsimp only at hSw
        go_simp
        first
          | done
          | with_reducible rfl
          | rw [if_neg (by omega)]
      try simp only [Act.put, List.setIfInBounds_toArray, List.set_cons_zero, List.set_cons_succ]
      refine wpAnyH_ready (rs := [10]) (by kernel_rfl) (by simp) ?_
      refine AllReadyH.cons (o := { dst := some 24, op := Op.call { callee := Callee.value (Operand.func 14), args := #[Operand.tmp 23, Operand.const (Value.int IntKind.i64 5)], argTypes := #[40, 3] }, type := 3, pos := "source.go:136", after := #[{ on := 9, ground := Ground.data }, { on := 3, ground := Ground.chain }], guard := none }) rfl (fun K hK => ?_) (AllReadyH.nil)
      go_simp
      go_at_call 14
      refine (gnext 5 5 rfl (by decide) (by decide) HG63.out HN.out).mono ?_
      rintro e w64 ⟨r64, hr64, rfl, hG64, hK64⟩
      have HG64 := Lib.hid hG64
      have HK64 := Lib.hid (HK63.out.trans (hK64.mono fun _ q => .inl q))
      have HB64 := Lib.hid ((hK64.block _ (.inr rfl)).trans HB63.out)
      clear hG64 hK64
      try dsimp only
      have hx64 : (0 : Int) ≤ (r64 : Int) := by omega
      have hy64 : (r64 : Int) < 5 := by omega
      have hd64 := digS_size r64
      refine hK.out _ _ (HG64.out.c0) (fun _ => ?_)
      clear hK K
      try simp only [Act.put, List.setIfInBounds_toArray, List.set_cons_zero, List.set_cons_succ]
      refine wpAnyH_take (i := 11) (oi := { dst := some 25, op := Op.indexAddr 44 (Operand.tmp 19) (Operand.tmp 24), type := 0, pos := "source.go:136", after := #[{ on := 5, ground := Ground.data }, { on := 10, ground := Ground.data }], guard := none }) (v := ?_) rfl (by kernel_rfl) (by kernel_rfl) (by kernel_rfl) (fun _ _ _ h => h) (Or.inl ⟨by rfl, ?_⟩) (HG64.out.c0) ?_
      rotate_left 1
      · intro w hSw
        try dsimp only at hSw
        go_simp
        first
          | done
          | with_reducible rfl
          | rw [if_neg (by omega)]
      try simp only [Act.put, List.setIfInBounds_toArray, List.set_cons_zero, List.set_cons_succ]
      have hl65 : w64.cell? ⟨bl62, r64, none⟩ = some (.string (S (tlI.getD r64 []))) := str_cell HB64.out r64 (show r64 < tlI.length from hr64)
      have hle65 := tlI_le r64 hr64
      have hlc65 : Hid (∀ W : World, W.heap[bl62]? = some (strBlock tlI) → W.cell? ⟨bl62, r64, none⟩ = some (.string (S (tlI.getD r64 [])))) := Lib.hid (fun W q => str_cell q r64 (show r64 < tlI.length from hr64))
      generalize tlI.getD r64 [] = st65 at *
      refine wpAnyH_stronger (S' := fun W => (W.cell? ⟨X.wb, 0, none⟩ = some (.pointer (some ⟨X.g, 0, none⟩))) ∧ W.cell? ⟨bl62, r64, none⟩ = some (.string (S st65))) (fun _ q => q.1) ?_
      have hlS65 : (S st65).size ≤ 10 := by rw [S_size]; omega
      refine wpAnyH_take (i := 12) (oi := { dst := some 26, op := Op.load 9 (Operand.tmp 25), type := 9, pos := "source.go:136", after := #[{ on := 11, ground := Ground.data }], guard := none }) (v := ?_) rfl (by kernel_rfl) (by kernel_rfl) (by kernel_rfl) (fun _ _ _ h => h) (Or.inl ⟨by rfl, ?_⟩) (⟨HG64.out.c0, hl65⟩) ?_
      rotate_left 1
      · intro w hSw
        (try dsimp only at hSw); have hSa := hSw.1; have hSb := hSw.2; clear hSw
        go_simp
        first
          | done
          | with_reducible rfl
          | rw [if_neg (by omega)]
      try simp only [Act.put, List.setIfInBounds_toArray, List.set_cons_zero, List.set_cons_succ]
      refine wpAnyH_take (i := 13) (oi := { dst := some 27, op := Op.binOp BinOp.add 9 (Operand.tmp 18) (Operand.tmp 26) 9, type := 9, pos := "source.go:136", after := #[{ on := 4, ground := Ground.data }, { on := 12, ground := Ground.data }], guard := none }) (v := ?_) rfl (by kernel_rfl) (by kernel_rfl) (by kernel_rfl) (fun _ _ _ h => h) (Or.inl ⟨by rfl, ?_⟩) (⟨HG64.out.c0, hl65⟩) ?_
      rotate_left 1
      · intro w hSw
        (try dsimp only at hSw); have hSa := hSw.1; have hSb := hSw.2; clear hSw
        go_simp
        first
          | done
          | with_reducible rfl
          | rw [if_neg (by omega)]
      try simp only [Act.put, List.setIfInBounds_toArray, List.set_cons_zero, List.set_cons_succ]
      refine wpAnyH_ready (rs := [17]) (by kernel_rfl) (by simp) ?_
      refine AllReadyH.cons (o := { dst := some 31, op := Op.call { callee := Callee.value (Operand.func 17), args := #[Operand.tmp 28, Operand.const (Value.int IntKind.i64 0), Operand.tmp 30], argTypes := #[45, 3, 3] }, type := 9, pos := "source.go:136", after := #[{ on := 14, ground := Ground.data }, { on := 16, ground := Ground.data }, { on := 10, ground := Ground.chain }], guard := none }) rfl (fun K hK => ?_) (AllReadyH.nil)
      go_simp
      go_at_call 17
      refine (HE.out _ _ _ _ _ _ HG64.out HN.out (by omega)).mono ?_
      rintro e w66 ⟨s66, f66, rfl, hs66, hf66, hg66, hG66, hK66⟩
      have HG66 := Lib.hid hG66
      have HK66 := Lib.hid (HK64.out.trans (hK66.mono fun _ q => .inl q))
      have HB66 := Lib.hid ((hK66.block _ (.inr rfl)).trans HB64.out)
      have hl66 := hlc65.out _ HB66.out
      clear hG66 hK66
      try dsimp only
      have hb66 : s66.size ≤ 500 := by omega
      refine hK.out _ _ (⟨HG66.out.c0, hl66⟩) (fun _ => ?_)
      clear hK K
      try simp only [Act.put, List.setIfInBounds_toArray, List.set_cons_zero, List.set_cons_succ]
      refine wpAnyH_take (i := 18) (oi := { dst := some 32, op := Op.binOp BinOp.add 9 (Operand.tmp 27) (Operand.tmp 31) 9, type := 9, pos := "source.go:136", after := #[{ on := 13, ground := Ground.data }, { on := 17, ground := Ground.data }], guard := none }) (v := ?_) rfl (by kernel_rfl) (by kernel_rfl) (by kernel_rfl) (fun _ _ _ h => h) (Or.inl ⟨by rfl, ?_⟩) (⟨HG66.out.c0, hl66⟩) ?_
      rotate_left 1
      · intro w hSw
        (try dsimp only at hSw); have hSa := hSw.1; have hSb := hSw.2; clear hSw
        go_simp
        first
          | done
          | with_reducible rfl
          | rw [if_neg (by omega)]
      try simp only [Act.put, List.setIfInBounds_toArray, List.set_cons_zero, List.set_cons_succ]
      refine wpAnyH_take (i := 19) (oi := { dst := some 33, op := Op.binOp BinOp.add 9 (Operand.tmp 32) (Operand.const (Value.string { data := #[41] })) 9, type := 9, pos := "source.go:136", after := #[{ on := 18, ground := Ground.data }], guard := none }) (v := ?_) rfl (by kernel_rfl) (by kernel_rfl) (by kernel_rfl) (fun _ _ _ h => h) (Or.inl ⟨by rfl, ?_⟩) (⟨HG66.out.c0, hl66⟩) ?_
      rotate_left 1
      · intro w hSw
        (try dsimp only at hSw); have hSa := hSw.1; have hSb := hSw.2; clear hSw
        go_simp
        first
          | done
          | with_reducible rfl
          | rw [if_neg (by omega)]
      try simp only [Act.put, List.setIfInBounds_toArray, List.set_cons_zero, List.set_cons_succ]
      refine wpAnyH_take (i := 20) (oi := { dst := some 4, op := Op.assign (Operand.tmp 33), type := 9, pos := "source.go:136", after := #[{ on := 19, ground := Ground.data }, { on := 17, ground := Ground.chain }, { on := 0, ground := Ground.phase }, { on := 1, ground := Ground.phase }, { on := 2, ground := Ground.phase }, { on := 3, ground := Ground.phase }, { on := 4, ground := Ground.phase }, { on := 5, ground := Ground.phase }, { on := 6, ground := Ground.phase }, { on := 7, ground := Ground.phase }, { on := 8, ground := Ground.phase }, { on := 9, ground := Ground.phase }, { on := 10, ground := Ground.phase }, { on := 11, ground := Ground.phase }, { on := 12, ground := Ground.phase }, { on := 13, ground := Ground.phase }, { on := 14, ground := Ground.phase }, { on := 15, ground := Ground.phase }, { on := 16, ground := Ground.phase }, { on := 17, ground := Ground.phase }, { on := 18, ground := Ground.phase }, { on := 19, ground := Ground.phase }], guard := none }) (v := ?_) rfl (by kernel_rfl) (by kernel_rfl) (by kernel_rfl) (fun _ _ _ h => h) (Or.inl ⟨by rfl, ?_⟩) (⟨HG66.out.c0, hl66⟩) ?_
      rotate_left 1
      · intro w hSw
        (try dsimp only at hSw); have hSa := hSw.1; have hSb := hSw.2; clear hSw
        go_simp
        first
          | done
          | with_reducible rfl
          | rw [if_neg (by omega)]
      try simp only [Act.put, List.setIfInBounds_toArray, List.set_cons_zero, List.set_cons_succ]
      refine wpAnyH_done (by kernel_rfl) ?_ _
      refine NoPanic.normal ?_
      go_wp2_with fail
      go_ret
      exact ⟨_, f66, rfl, by (try simp [ByteArray.size_append, size_lit]); omega, by omega, by omega, (HG66.out.back hgb62), HK66.out⟩
  · go_wp2_with fail
    have HGd := Lib.hid HG1.out.drew
    have HKd := Lib.hid HK1.out.drew
    refine wp_region_noPanic ?_
    refine wp_region_held_drew (S := fun W => W.cell? ⟨X.wb, 0, none⟩ = some (.pointer (some ⟨X.g, 0, none⟩))) (by kernel_rfl) (HGd.out.c0) (fun _ => ?_)
    generalize w1.drew = wd at *
    try simp only [Act.put, List.setIfInBounds_toArray, List.set_cons_zero, List.set_cons_succ]
    refine wpAnyH_take (i := 0) (oi := { dst := some 14, op := Op.move (Operand.tmp 0), type := 45, pos := "source.go:136", after := #[], guard := none }) (v := ?_) rfl (by kernel_rfl) (by kernel_rfl) (by kernel_rfl) (fun _ _ _ h => h) (Or.inl ⟨by rfl, ?_⟩) (HGd.out.c0) ?_
    rotate_left 1
    · intro w hSw
      try dsimp only at hSw
      go_simp
      first
        | done
        | with_reducible rfl
        | rw [if_neg (by omega)]
    try simp only [Act.put, List.setIfInBounds_toArray, List.set_cons_zero, List.set_cons_succ]
    refine wpAnyH_take (i := 1) (oi := { dst := some 15, op := Op.move (Operand.tmp 1), type := 3, pos := "source.go:136", after := #[], guard := none }) (v := ?_) rfl (by kernel_rfl) (by kernel_rfl) (by kernel_rfl) (fun _ _ _ h => h) (Or.inl ⟨by rfl, ?_⟩) (HGd.out.c0) ?_
    rotate_left 1
    · intro w hSw
      try dsimp only at hSw
      go_simp
      first
        | done
        | with_reducible rfl
        | rw [if_neg (by omega)]
    try simp only [Act.put, List.setIfInBounds_toArray, List.set_cons_zero, List.set_cons_succ]
    refine wpAnyH_take (i := 2) (oi := { dst := some 16, op := Op.binOp BinOp.sub 3 (Operand.tmp 15) (Operand.const (Value.int IntKind.i64 1)) 3, type := 3, pos := "source.go:136", after := #[{ on := 1, ground := Ground.data }], guard := none }) (v := ?_) rfl (by kernel_rfl) (by kernel_rfl) (by kernel_rfl) (fun _ _ _ h => h) (Or.inl ⟨by rfl, ?_⟩) (HGd.out.c0) ?_
    rotate_left 1
    · intro w hSw
      try dsimp only at hSw
      go_simp
      first
        | done
        | with_reducible rfl
        | rw [if_neg (by omega)]
    try simp only [Act.put, List.setIfInBounds_toArray, List.set_cons_zero, List.set_cons_succ]
    refine wpAnyH_take (i := 6) (oi := { dst := some 20, op := Op.move (Operand.tmp 0), type := 45, pos := "source.go:136", after := #[], guard := none }) (v := ?_) rfl (by kernel_rfl) (by kernel_rfl) (by kernel_rfl) (fun _ _ _ h => h) (Or.inl ⟨by rfl, ?_⟩) (HGd.out.c0) ?_
    rotate_left 1
    · intro w hSw
      try dsimp only at hSw
      go_simp
      first
        | done
        | with_reducible rfl
        | rw [if_neg (by omega)]
    try simp only [Act.put, List.setIfInBounds_toArray, List.set_cons_zero, List.set_cons_succ]
    refine wpAnyH_take (i := 7) (oi := { dst := some 21, op := Op.nilCheck (Operand.tmp 20), type := 0, pos := "source.go:136", after := #[{ on := 6, ground := Ground.data }], guard := none }) (v := ?_) rfl (by kernel_rfl) (by kernel_rfl) (by kernel_rfl) (fun _ _ _ h => h) (Or.inl ⟨by rfl, ?_⟩) (HGd.out.c0) ?_
    rotate_left 1
    · intro w hSw
      try dsimp only at hSw
      go_simp
      first
        | done
        | with_reducible rfl
        | rw [if_neg (by omega)]
    try simp only [Act.put, List.setIfInBounds_toArray, List.set_cons_zero, List.set_cons_succ]
    refine wpAnyH_take (i := 8) (oi := { dst := some 22, op := Op.fieldAddr 47 (Operand.tmp 21) 0, type := 0, pos := "source.go:136", after := #[{ on := 7, ground := Ground.data }], guard := none }) (v := ?_) rfl (by kernel_rfl) (by kernel_rfl) (by kernel_rfl) (fun _ _ _ h => h) (Or.inl ⟨by rfl, ?_⟩) (HGd.out.c0) ?_
    rotate_left 1
    · intro w hSw
      try dsimp only at hSw
      go_simp
      first
        | done
        | with_reducible rfl
        | rw [if_neg (by omega)]
    try simp only [Act.put, List.setIfInBounds_toArray, List.set_cons_zero, List.set_cons_succ]
    refine wpAnyH_take (i := 9) (oi := { dst := some 23, op := Op.load 40 (Operand.tmp 22), type := 40, pos := "source.go:136", after := #[{ on := 8, ground := Ground.data }], guard := none }) (v := ?_) rfl (by kernel_rfl) (by kernel_rfl) (by kernel_rfl) (fun _ _ _ h => h) (Or.inl ⟨by rfl, ?_⟩) (HGd.out.c0) ?_
    rotate_left 1
    · intro w hSw
      try dsimp only at hSw
      go_simp
      first
        | done
        | with_reducible rfl
        | rw [if_neg (by omega)]
    try simp only [Act.put, List.setIfInBounds_toArray, List.set_cons_zero, List.set_cons_succ]
    refine wpAnyH_take (i := 14) (oi := { dst := some 28, op := Op.move (Operand.tmp 0), type := 45, pos := "source.go:136", after := #[], guard := none }) (v := ?_) rfl (by kernel_rfl) (by kernel_rfl) (by kernel_rfl) (fun _ _ _ h => h) (Or.inl ⟨by rfl, ?_⟩) (HGd.out.c0) ?_
    rotate_left 1
    · intro w hSw
      try dsimp only at hSw
      go_simp
      first
        | done
        | with_reducible rfl
        | rw [if_neg (by omega)]
    try simp only [Act.put, List.setIfInBounds_toArray, List.set_cons_zero, List.set_cons_succ]
    refine wpAnyH_take (i := 15) (oi := { dst := some 29, op := Op.move (Operand.tmp 1), type := 3, pos := "source.go:136", after := #[], guard := none }) (v := ?_) rfl (by kernel_rfl) (by kernel_rfl) (by kernel_rfl) (fun _ _ _ h => h) (Or.inl ⟨by rfl, ?_⟩) (HGd.out.c0) ?_
    rotate_left 1
    · intro w hSw
      try dsimp only at hSw
      go_simp
      first
        | done
        | with_reducible rfl
        | rw [if_neg (by omega)]
    try simp only [Act.put, List.setIfInBounds_toArray, List.set_cons_zero, List.set_cons_succ]
    refine wpAnyH_take (i := 16) (oi := { dst := some 30, op := Op.binOp BinOp.sub 3 (Operand.tmp 29) (Operand.const (Value.int IntKind.i64 1)) 3, type := 3, pos := "source.go:136", after := #[{ on := 15, ground := Ground.data }], guard := none }) (v := ?_) rfl (by kernel_rfl) (by kernel_rfl) (by kernel_rfl) (fun _ _ _ h => h) (Or.inl ⟨by rfl, ?_⟩) (HGd.out.c0) ?_
    rotate_left 1
    · intro w hSw
      try dsimp only at hSw
      go_simp
      first
        | done
        | with_reducible rfl
        | rw [if_neg (by omega)]
    try simp only [Act.put, List.setIfInBounds_toArray, List.set_cons_zero, List.set_cons_succ]
    refine wpAnyH_ready (rs := [3, 5]) (by kernel_rfl) (by simp) ?_
    refine AllReadyH.cons (o := { dst := some 17, op := Op.call { callee := Callee.value (Operand.func 17), args := #[Operand.tmp 14, Operand.const (Value.int IntKind.i64 0), Operand.tmp 16], argTypes := #[45, 3, 3] }, type := 9, pos := "source.go:136", after := #[{ on := 0, ground := Ground.data }, { on := 2, ground := Ground.data }], guard := none }) rfl (fun K hK => ?_) (AllReadyH.cons (o := { dst := some 19, op := Op.buildSlice 44 5 #[(0, Operand.const (Value.string { data := #[32, 60, 32] })), (1, Operand.const (Value.string { data := #[32, 60, 61, 32] })), (2, Operand.const (Value.string { data := #[32, 61, 61, 32] })), (3, Operand.const (Value.string { data := #[32, 33, 61, 32] })), (4, Operand.const (Value.string { data := #[32, 62, 61, 32] }))], type := 44, pos := "source.go:136", after := #[], guard := none }) rfl (fun K hK => ?_) (AllReadyH.nil))
    · go_simp
      go_at_call 17
      refine (HE.out _ _ _ _ _ _ HGd.out HN.out (by omega)).mono ?_
      rintro e w50 ⟨s50, f50, rfl, hs50, hf50, hg50, hG50, hK50⟩
      have HG50 := Lib.hid hG50
      have HK50 := Lib.hid (HKd.out.trans hK50)
      clear hG50 hK50
      try dsimp only
      have hb50 : s50.size ≤ 500 := by omega
      refine hK.out _ _ (HG50.out.c0) (fun _ => ?_)
      clear hK K
      try simp only [Act.put, List.setIfInBounds_toArray, List.set_cons_zero, List.set_cons_succ]
      refine wpAnyH_take (i := 4) (oi := { dst := some 18, op := Op.binOp BinOp.add 9 (Operand.const (Value.string { data := #[40] })) (Operand.tmp 17) 9, type := 9, pos := "source.go:136", after := #[{ on := 3, ground := Ground.data }], guard := none }) (v := ?_) rfl (by kernel_rfl) (by kernel_rfl) (by kernel_rfl) (fun _ _ _ h => h) (Or.inl ⟨by rfl, ?_⟩) (HG50.out.c0) ?_
      rotate_left 1
      · intro w hSw
        try dsimp only at hSw
        go_simp
        first
          | done
          | with_reducible rfl
          | rw [if_neg (by omega)]
      try simp only [Act.put, List.setIfInBounds_toArray, List.set_cons_zero, List.set_cons_succ]
      refine wpAnyH_ready (rs := [5, 10]) (by kernel_rfl) (by simp) ?_
      refine AllReadyH.cons (o := { dst := some 19, op := Op.buildSlice 44 5 #[(0, Operand.const (Value.string { data := #[32, 60, 32] })), (1, Operand.const (Value.string { data := #[32, 60, 61, 32] })), (2, Operand.const (Value.string { data := #[32, 61, 61, 32] })), (3, Operand.const (Value.string { data := #[32, 33, 61, 32] })), (4, Operand.const (Value.string { data := #[32, 62, 61, 32] }))], type := 44, pos := "source.go:136", after := #[], guard := none }) rfl (fun K hK => ?_) (AllReadyH.cons (o := { dst := some 24, op := Op.call { callee := Callee.value (Operand.func 14), args := #[Operand.tmp 23, Operand.const (Value.int IntKind.i64 5)], argTypes := #[40, 3] }, type := 3, pos := "source.go:136", after := #[{ on := 9, ground := Ground.data }, { on := 3, ground := Ground.chain }], guard := none }) rfl (fun K hK => ?_) (AllReadyH.nil))
      · go_simp
        try dsimp only
        have HG51 := Lib.hid (HG50.out.more (strBlock tlI))
        have HK51 := Lib.hid (HK50.out.alloc HL.out (strBlock tlI))
        have HB51 : Hid ((w50.alloc (strBlock tlI)).heap[w50.heap.size]? = some (strBlock tlI)) := heap_alloc_new w50 _
        have hgb51 := HG50.out.gl
        refine hK.out _ (w50.alloc (strBlock tlI)) (HG51.out.c0) (fun _ => ?_)
        clear hK K
        generalize hwe51 : w50.alloc (strBlock tlI) = wl51 at *
        clear hwe51
        generalize hbe51 : w50.heap.size = bl51 at *
        clear hbe51
        try simp only [Act.put, List.setIfInBounds_toArray, List.set_cons_zero, List.set_cons_succ]
        refine wpAnyH_ready (rs := [10]) (by kernel_rfl) (by simp) ?_
        refine AllReadyH.cons (o := { dst := some 24, op := Op.call { callee := Callee.value (Operand.func 14), args := #[Operand.tmp 23, Operand.const (Value.int IntKind.i64 5)], argTypes := #[40, 3] }, type := 3, pos := "source.go:136", after := #[{ on := 9, ground := Ground.data }, { on := 3, ground := Ground.chain }], guard := none }) rfl (fun K hK => ?_) (AllReadyH.nil)
        go_simp
        go_at_call 14
        refine (gnext 5 5 rfl (by decide) (by decide) HG51.out HN.out).mono ?_
        rintro e w52 ⟨r52, hr52, rfl, hG52, hK52⟩
        have HG52 := Lib.hid hG52
        have HK52 := Lib.hid (HK51.out.trans (hK52.mono fun _ q => .inl q))
        have HB52 := Lib.hid ((hK52.block _ (.inr rfl)).trans HB51.out)
        clear hG52 hK52
        try dsimp only
        have hx52 : (0 : Int) ≤ (r52 : Int) := by omega
        have hy52 : (r52 : Int) < 5 := by omega
        have hd52 := digS_size r52
        refine hK.out _ _ (HG52.out.c0) (fun _ => ?_)
        clear hK K
        try simp only [Act.put, List.setIfInBounds_toArray, List.set_cons_zero, List.set_cons_succ]
        refine wpAnyH_take (i := 11) (oi := { dst := some 25, op := Op.indexAddr 44 (Operand.tmp 19) (Operand.tmp 24), type := 0, pos := "source.go:136", after := #[{ on := 5, ground := Ground.data }, { on := 10, ground := Ground.data }], guard := none }) (v := ?_) rfl (by kernel_rfl) (by kernel_rfl) (by kernel_rfl) (fun _ _ _ h => h) (Or.inl ⟨by rfl, ?_⟩) (HG52.out.c0) ?_
        rotate_left 1
        · intro w hSw
          try dsimp only at hSw
          go_simp
          first
            | done
            | with_reducible rfl
            | rw [if_neg (by omega)]
        try simp only [Act.put, List.setIfInBounds_toArray, List.set_cons_zero, List.set_cons_succ]
        have hl53 : w52.cell? ⟨bl51, r52, none⟩ = some (.string (S (tlI.getD r52 []))) := str_cell HB52.out r52 (show r52 < tlI.length from hr52)
        have hle53 := tlI_le r52 hr52
        have hlc53 : Hid (∀ W : World, W.heap[bl51]? = some (strBlock tlI) → W.cell? ⟨bl51, r52, none⟩ = some (.string (S (tlI.getD r52 [])))) := Lib.hid (fun W q => str_cell q r52 (show r52 < tlI.length from hr52))
        generalize tlI.getD r52 [] = st53 at *
        refine wpAnyH_stronger (S' := fun W => (W.cell? ⟨X.wb, 0, none⟩ = some (.pointer (some ⟨X.g, 0, none⟩))) ∧ W.cell? ⟨bl51, r52, none⟩ = some (.string (S st53))) (fun _ q => q.1) ?_
        have hlS53 : (S st53).size ≤ 10 := by rw [S_size]; omega
        refine wpAnyH_take (i := 12) (oi := { dst := some 26, op := Op.load 9 (Operand.tmp 25), type := 9, pos := "source.go:136", after := #[{ on := 11, ground := Ground.data }], guard := none }) (v := ?_) rfl (by kernel_rfl) (by kernel_rfl) (by kernel_rfl) (fun _ _ _ h => h) (Or.inl ⟨by rfl, ?_⟩) (⟨HG52.out.c0, hl53⟩) ?_
        rotate_left 1
        · intro w hSw
          (try dsimp only at hSw); have hSa := hSw.1; have hSb := hSw.2; clear hSw
          go_simp
          first
            | done
            | with_reducible rfl
            | rw [if_neg (by omega)]
        try simp only [Act.put, List.setIfInBounds_toArray, List.set_cons_zero, List.set_cons_succ]
        refine wpAnyH_take (i := 13) (oi := { dst := some 27, op := Op.binOp BinOp.add 9 (Operand.tmp 18) (Operand.tmp 26) 9, type := 9, pos := "source.go:136", after := #[{ on := 4, ground := Ground.data }, { on := 12, ground := Ground.data }], guard := none }) (v := ?_) rfl (by kernel_rfl) (by kernel_rfl) (by kernel_rfl) (fun _ _ _ h => h) (Or.inl ⟨by rfl, ?_⟩) (⟨HG52.out.c0, hl53⟩) ?_
        rotate_left 1
        · intro w hSw
          (try dsimp only at hSw); have hSa := hSw.1; have hSb := hSw.2; clear hSw
          go_simp
          first
            | done
            | with_reducible rfl
            | rw [if_neg (by omega)]
        try simp only [Act.put, List.setIfInBounds_toArray, List.set_cons_zero, List.set_cons_succ]
        refine wpAnyH_ready (rs := [17]) (by kernel_rfl) (by simp) ?_
        refine AllReadyH.cons (o := { dst := some 31, op := Op.call { callee := Callee.value (Operand.func 17), args := #[Operand.tmp 28, Operand.const (Value.int IntKind.i64 0), Operand.tmp 30], argTypes := #[45, 3, 3] }, type := 9, pos := "source.go:136", after := #[{ on := 14, ground := Ground.data }, { on := 16, ground := Ground.data }, { on := 10, ground := Ground.chain }], guard := none }) rfl (fun K hK => ?_) (AllReadyH.nil)
        go_simp
        go_at_call 17
        refine (HE.out _ _ _ _ _ _ HG52.out HN.out (by omega)).mono ?_
        rintro e w54 ⟨s54, f54, rfl, hs54, hf54, hg54, hG54, hK54⟩
        have HG54 := Lib.hid hG54
        have HK54 := Lib.hid (HK52.out.trans (hK54.mono fun _ q => .inl q))
        have HB54 := Lib.hid ((hK54.block _ (.inr rfl)).trans HB52.out)
        have hl54 := hlc53.out _ HB54.out
        clear hG54 hK54
        try dsimp only
        have hb54 : s54.size ≤ 500 := by omega
        refine hK.out _ _ (⟨HG54.out.c0, hl54⟩) (fun _ => ?_)
        clear hK K
        try simp only [Act.put, List.setIfInBounds_toArray, List.set_cons_zero, List.set_cons_succ]
        refine wpAnyH_take (i := 18) (oi := { dst := some 32, op := Op.binOp BinOp.add 9 (Operand.tmp 27) (Operand.tmp 31) 9, type := 9, pos := "source.go:136", after := #[{ on := 13, ground := Ground.data }, { on := 17, ground := Ground.data }], guard := none }) (v := ?_) rfl (by kernel_rfl) (by kernel_rfl) (by kernel_rfl) (fun _ _ _ h => h) (Or.inl ⟨by rfl, ?_⟩) (⟨HG54.out.c0, hl54⟩) ?_
        rotate_left 1
        · intro w hSw
          (try dsimp only at hSw); have hSa := hSw.1; have hSb := hSw.2; clear hSw
          go_simp
          first
            | done
            | with_reducible rfl
            | rw [if_neg (by omega)]
        try simp only [Act.put, List.setIfInBounds_toArray, List.set_cons_zero, List.set_cons_succ]
        refine wpAnyH_take (i := 19) (oi := { dst := some 33, op := Op.binOp BinOp.add 9 (Operand.tmp 32) (Operand.const (Value.string { data := #[41] })) 9, type := 9, pos := "source.go:136", after := #[{ on := 18, ground := Ground.data }], guard := none }) (v := ?_) rfl (by kernel_rfl) (by kernel_rfl) (by kernel_rfl) (fun _ _ _ h => h) (Or.inl ⟨by rfl, ?_⟩) (⟨HG54.out.c0, hl54⟩) ?_
        rotate_left 1
        · intro w hSw
          (try dsimp only at hSw); have hSa := hSw.1; have hSb := hSw.2; clear hSw
          go_simp
          first
            | done
            | with_reducible rfl
            | rw [if_neg (by omega)]
        try simp only [Act.put, List.setIfInBounds_toArray, List.set_cons_zero, List.set_cons_succ]
        refine wpAnyH_take (i := 20) (oi := { dst := some 4, op := Op.assign (Operand.tmp 33), type := 9, pos := "source.go:136", after := #[{ on := 19, ground := Ground.data }, { on := 17, ground := Ground.chain }, { on := 0, ground := Ground.phase }, { on := 1, ground := Ground.phase }, { on := 2, ground := Ground.phase }, { on := 3, ground := Ground.phase }, { on := 4, ground := Ground.phase }, { on := 5, ground := Ground.phase }, { on := 6, ground := Ground.phase }, { on := 7, ground := Ground.phase }, { on := 8, ground := Ground.phase }, { on := 9, ground := Ground.phase }, { on := 10, ground := Ground.phase }, { on := 11, ground := Ground.phase }, { on := 12, ground := Ground.phase }, { on := 13, ground := Ground.phase }, { on := 14, ground := Ground.phase }, { on := 15, ground := Ground.phase }, { on := 16, ground := Ground.phase }, { on := 17, ground := Ground.phase }, { on := 18, ground := Ground.phase }, { on := 19, ground := Ground.phase }], guard := none }) (v := ?_) rfl (by kernel_rfl) (by kernel_rfl) (by kernel_rfl) (fun _ _ _ h => h) (Or.inl ⟨by rfl, ?_⟩) (⟨HG54.out.c0, hl54⟩) ?_
        rotate_left 1
        · intro w hSw
          (try dsimp only at hSw); have hSa := hSw.1; have hSb := hSw.2; clear hSw
          go_simp
          first
            | done
            | with_reducible rfl
            | rw [if_neg (by omega)]
        try simp only [Act.put, List.setIfInBounds_toArray, List.set_cons_zero, List.set_cons_succ]
        refine wpAnyH_done (by kernel_rfl) ?_ _
        refine NoPanic.normal ?_
        go_wp2_with fail
        go_ret
        exact ⟨_, f54, rfl, by (try simp [ByteArray.size_append, size_lit]); omega, by omega, by omega, (HG54.out.back hgb51), HK54.out⟩
      · go_simp
        go_at_call 14
        refine (gnext 5 5 rfl (by decide) (by decide) HG50.out HN.out).mono ?_
        rintro e w55 ⟨r55, hr55, rfl, hG55, hK55⟩
        have HG55 := Lib.hid hG55
        have HK55 := Lib.hid (HK50.out.trans hK55)
        clear hG55 hK55
        try dsimp only
        have hx55 : (0 : Int) ≤ (r55 : Int) := by omega
        have hy55 : (r55 : Int) < 5 := by omega
        have hd55 := digS_size r55
        refine hK.out _ _ (HG55.out.c0) (fun _ => ?_)
        clear hK K
        try simp only [Act.put, List.setIfInBounds_toArray, List.set_cons_zero, List.set_cons_succ]
        refine wpAnyH_ready (rs := [5, 17]) (by kernel_rfl) (by simp) ?_
        refine AllReadyH.cons (o := { dst := some 19, op := Op.buildSlice 44 5 #[(0, Operand.const (Value.string { data := #[32, 60, 32] })), (1, Operand.const (Value.string { data := #[32, 60, 61, 32] })), (2, Operand.const (Value.string { data := #[32, 61, 61, 32] })), (3, Operand.const (Value.string { data := #[32, 33, 61, 32] })), (4, Operand.const (Value.string { data := #[32, 62, 61, 32] }))], type := 44, pos := "source.go:136", after := #[], guard := none }) rfl (fun K hK => ?_) (AllReadyH.cons (o := { dst := some 31, op := Op.call { callee := Callee.value (Operand.func 17), args := #[Operand.tmp 28, Operand.const (Value.int IntKind.i64 0), Operand.tmp 30], argTypes := #[45, 3, 3] }, type := 9, pos := "source.go:136", after := #[{ on := 14, ground := Ground.data }, { on := 16, ground := Ground.data }, { on := 10, ground := Ground.chain }], guard := none }) rfl (fun K hK => ?_) (AllReadyH.nil))
        · go_simp
          try dsimp only
          have HG56 := Lib.hid (HG55.out.more (strBlock tlI))
          have HK56 := Lib.hid (HK55.out.alloc HL.out (strBlock tlI))
          have HB56 : Hid ((w55.alloc (strBlock tlI)).heap[w55.heap.size]? = some (strBlock tlI)) := heap_alloc_new w55 _
          have hgb56 := HG55.out.gl
          refine hK.out _ (w55.alloc (strBlock tlI)) (HG56.out.c0) (fun _ => ?_)
          clear hK K
          generalize hwe56 : w55.alloc (strBlock tlI) = wl56 at *
          clear hwe56
          generalize hbe56 : w55.heap.size = bl56 at *
          clear hbe56
          try simp only [Act.put, List.setIfInBounds_toArray, List.set_cons_zero, List.set_cons_succ]
          refine wpAnyH_take (i := 11) (oi := { dst := some 25, op := Op.indexAddr 44 (Operand.tmp 19) (Operand.tmp 24), type := 0, pos := "source.go:136", after := #[{ on := 5, ground := Ground.data }, { on := 10, ground := Ground.data }], guard := none }) (v := ?_) rfl (by kernel_rfl) (by kernel_rfl) (by kernel_rfl) (fun _ _ _ h => h) (Or.inl ⟨by rfl, ?_⟩) (HG56.out.c0) ?_
          rotate_left 1
          · intro w hSw
            try dsimp only at hSw
            go_simp
            first
              | done
              | with_reducible rfl
              | rw [if_neg (by omega)]
          try simp only [Act.put, List.setIfInBounds_toArray, List.set_cons_zero, List.set_cons_succ]
          have hl57 : wl56.cell? ⟨bl56, r55, none⟩ = some (.string (S (tlI.getD r55 []))) := str_cell HB56.out r55 (show r55 < tlI.length from hr55)
          have hle57 := tlI_le r55 hr55
          have hlc57 : Hid (∀ W : World, W.heap[bl56]? = some (strBlock tlI) → W.cell? ⟨bl56, r55, none⟩ = some (.string (S (tlI.getD r55 [])))) := Lib.hid (fun W q => str_cell q r55 (show r55 < tlI.length from hr55))
          generalize tlI.getD r55 [] = st57 at *
          refine wpAnyH_stronger (S' := fun W => (W.cell? ⟨X.wb, 0, none⟩ = some (.pointer (some ⟨X.g, 0, none⟩))) ∧ W.cell? ⟨bl56, r55, none⟩ = some (.string (S st57))) (fun _ q => q.1) ?_
          have hlS57 : (S st57).size ≤ 10 := by rw [S_size]; omega
          refine wpAnyH_take (i := 12) (oi := { dst := some 26, op := Op.load 9 (Operand.tmp 25), type := 9, pos := "source.go:136", after := #[{ on := 11, ground := Ground.data }], guard := none }) (v := ?_) rfl (by kernel_rfl) (by kernel_rfl) (by kernel_rfl) (fun _ _ _ h => h) (Or.inl ⟨by rfl, ?_⟩) (⟨HG56.out.c0, hl57⟩) ?_
          rotate_left 1
          · intro w hSw
            (try dsimp only at hSw); have hSa := hSw.1; have hSb := hSw.2; clear hSw
            go_simp
            first
              | done
              | with_reducible rfl
              | rw [if_neg (by omega)]
          try simp only [Act.put, List.setIfInBounds_toArray, List.set_cons_zero, List.set_cons_succ]
          refine wpAnyH_take (i := 13) (oi := { dst := some 27, op := Op.binOp BinOp.add 9 (Operand.tmp 18) (Operand.tmp 26) 9, type := 9, pos := "source.go:136", after := #[{ on := 4, ground := Ground.data }, { on := 12, ground := Ground.data }], guard := none }) (v := ?_) rfl (by kernel_rfl) (by kernel_rfl) (by kernel_rfl) (fun _ _ _ h => h) (Or.inl ⟨by rfl, ?_⟩) (⟨HG56.out.c0, hl57⟩) ?_
          rotate_left 1
          · intro w hSw
            (try dsimp only at hSw); have hSa := hSw.1; have hSb := hSw.2; clear hSw
            go_simp
            first
              | done
              | with_reducible rfl
              | rw [if_neg (by omega)]
          try simp only [Act.put, List.setIfInBounds_toArray, List.set_cons_zero, List.set_cons_succ]
          refine wpAnyH_ready (rs := [17]) (by kernel_rfl) (by simp) ?_
          refine AllReadyH.cons (o := { dst := some 31, op := Op.call { callee := Callee.value (Operand.func 17), args := #[Operand.tmp 28, Operand.const (Value.int IntKind.i64 0), Operand.tmp 30], argTypes := #[45, 3, 3] }, type := 9, pos := "source.go:136", after := #[{ on := 14, ground := Ground.data }, { on := 16, ground := Ground.data }, { on := 10, ground := Ground.chain }], guard := none }) rfl (fun K hK => ?_) (AllReadyH.nil)
          go_simp
          go_at_call 17
          refine (HE.out _ _ _ _ _ _ HG56.out HN.out (by omega)).mono ?_
          rintro e w58 ⟨s58, f58, rfl, hs58, hf58, hg58, hG58, hK58⟩
          have HG58 := Lib.hid hG58
          have HK58 := Lib.hid (HK56.out.trans (hK58.mono fun _ q => .inl q))
          have HB58 := Lib.hid ((hK58.block _ (.inr rfl)).trans HB56.out)
          have hl58 := hlc57.out _ HB58.out
          clear hG58 hK58
          try dsimp only
          have hb58 : s58.size ≤ 500 := by omega
          refine hK.out _ _ (⟨HG58.out.c0, hl58⟩) (fun _ => ?_)
          clear hK K
          try simp only [Act.put, List.setIfInBounds_toArray, List.set_cons_zero, List.set_cons_succ]
          refine wpAnyH_take (i := 18) (oi := { dst := some 32, op := Op.binOp BinOp.add 9 (Operand.tmp 27) (Operand.tmp 31) 9, type := 9, pos := "source.go:136", after := #[{ on := 13, ground := Ground.data }, { on := 17, ground := Ground.data }], guard := none }) (v := ?_) rfl (by kernel_rfl) (by kernel_rfl) (by kernel_rfl) (fun _ _ _ h => h) (Or.inl ⟨by rfl, ?_⟩) (⟨HG58.out.c0, hl58⟩) ?_
          rotate_left 1
          · intro w hSw
            (try dsimp only at hSw); have hSa := hSw.1; have hSb := hSw.2; clear hSw
            go_simp
            first
              | done
              | with_reducible rfl
              | rw [if_neg (by omega)]
          try simp only [Act.put, List.setIfInBounds_toArray, List.set_cons_zero, List.set_cons_succ]
          refine wpAnyH_take (i := 19) (oi := { dst := some 33, op := Op.binOp BinOp.add 9 (Operand.tmp 32) (Operand.const (Value.string { data := #[41] })) 9, type := 9, pos := "source.go:136", after := #[{ on := 18, ground := Ground.data }], guard := none }) (v := ?_) rfl (by kernel_rfl) (by kernel_rfl) (by kernel_rfl) (fun _ _ _ h => h) (Or.inl ⟨by rfl, ?_⟩) (⟨HG58.out.c0, hl58⟩) ?_
          rotate_left 1
          · intro w hSw
            (try dsimp only at hSw); have hSa := hSw.1; have hSb := hSw.2; clear hSw
            go_simp
            first
              | done
              | with_reducible rfl
              | rw [if_neg (by omega)]
          try simp only [Act.put, List.setIfInBounds_toArray, List.set_cons_zero, List.set_cons_succ]
          refine wpAnyH_take (i := 20) (oi := { dst := some 4, op := Op.assign (Operand.tmp 33), type := 9, pos := "source.go:136", after := #[{ on := 19, ground := Ground.data }, { on := 17, ground := Ground.chain }, { on := 0, ground := Ground.phase }, { on := 1, ground := Ground.phase }, { on := 2, ground := Ground.phase }, { on := 3, ground := Ground.phase }, { on := 4, ground := Ground.phase }, { on := 5, ground := Ground.phase }, { on := 6, ground := Ground.phase }, { on := 7, ground := Ground.phase }, { on := 8, ground := Ground.phase }, { on := 9, ground := Ground.phase }, { on := 10, ground := Ground.phase }, { on := 11, ground := Ground.phase }, { on := 12, ground := Ground.phase }, { on := 13, ground := Ground.phase }, { on := 14, ground := Ground.phase }, { on := 15, ground := Ground.phase }, { on := 16, ground := Ground.phase }, { on := 17, ground := Ground.phase }, { on := 18, ground := Ground.phase }, { on := 19, ground := Ground.phase }], guard := none }) (v := ?_) rfl (by kernel_rfl) (by kernel_rfl) (by kernel_rfl) (fun _ _ _ h => h) (Or.inl ⟨by rfl, ?_⟩) (⟨HG58.out.c0, hl58⟩) ?_
          rotate_left 1
          · intro w hSw
            (try dsimp only at hSw); have hSa := hSw.1; have hSb := hSw.2; clear hSw
            go_simp
            first
              | done
              | with_reducible rfl
              | rw [if_neg (by omega)]
          try simp only [Act.put, List.setIfInBounds_toArray, List.set_cons_zero, List.set_cons_succ]
          refine wpAnyH_done (by kernel_rfl) ?_ _
          refine NoPanic.normal ?_
          go_wp2_with fail
          go_ret
          exact ⟨_, f58, rfl, by (try simp [ByteArray.size_append, size_lit]); omega, by omega, by omega, (HG58.out.back hgb56), HK58.out⟩
        · go_simp
          go_at_call 17
          refine (HE.out _ _ _ _ _ _ HG55.out HN.out (by omega)).mono ?_
          rintro e w59 ⟨s59, f59, rfl, hs59, hf59, hg59, hG59, hK59⟩
          have HG59 := Lib.hid hG59
          have HK59 := Lib.hid (HK55.out.trans hK59)
          clear hG59 hK59
          try dsimp only
          have hb59 : s59.size ≤ 500 := by omega
          refine hK.out _ _ (HG59.out.c0) (fun _ => ?_)
          clear hK K
          try simp only [Act.put, List.setIfInBounds_toArray, List.set_cons_zero, List.set_cons_succ]
          refine wpAnyH_ready (rs := [5]) (by kernel_rfl) (by simp) ?_
          refine AllReadyH.cons (o := { dst := some 19, op := Op.buildSlice 44 5 #[(0, Operand.const (Value.string { data := #[32, 60, 32] })), (1, Operand.const (Value.string { data := #[32, 60, 61, 32] })), (2, Operand.const (Value.string { data := #[32, 61, 61, 32] })), (3, Operand.const (Value.string { data := #[32, 33, 61, 32] })), (4, Operand.const (Value.string { data := #[32, 62, 61, 32] }))], type := 44, pos := "source.go:136", after := #[], guard := none }) rfl (fun K hK => ?_) (AllReadyH.nil)
          go_simp
          try dsimp only
          have HG60 := Lib.hid (HG59.out.more (strBlock tlI))
          have HK60 := Lib.hid (HK59.out.alloc HL.out (strBlock tlI))
          have HB60 : Hid ((w59.alloc (strBlock tlI)).heap[w59.heap.size]? = some (strBlock tlI)) := heap_alloc_new w59 _
          have hgb60 := HG59.out.gl
          refine hK.out _ (w59.alloc (strBlock tlI)) (HG60.out.c0) (fun _ => ?_)
          clear hK K
          generalize hwe60 : w59.alloc (strBlock tlI) = wl60 at *
          clear hwe60
          generalize hbe60 : w59.heap.size = bl60 at *
          clear hbe60
          try simp only [Act.put, List.setIfInBounds_toArray, List.set_cons_zero, List.set_cons_succ]
          refine wpAnyH_take (i := 11) (oi := { dst := some 25, op := Op.indexAddr 44 (Operand.tmp 19) (Operand.tmp 24), type := 0, pos := "source.go:136", after := #[{ on := 5, ground := Ground.data }, { on := 10, ground := Ground.data }], guard := none }) (v := ?_) rfl (by kernel_rfl) (by kernel_rfl) (by kernel_rfl) (fun _ _ _ h => h) (Or.inl ⟨by rfl, ?_⟩) (HG60.out.c0) ?_
          rotate_left 1
          · intro w hSw
            try dsimp only at hSw
            go_simp
            first
              | done
              | with_reducible rfl
              | rw [if_neg (by omega)]
          try simp only [Act.put, List.setIfInBounds_toArray, List.set_cons_zero, List.set_cons_succ]
          have hl61 : wl60.cell? ⟨bl60, r55, none⟩ = some (.string (S (tlI.getD r55 []))) := str_cell HB60.out r55 (show r55 < tlI.length from hr55)
          have hle61 := tlI_le r55 hr55
          have hlc61 : Hid (∀ W : World, W.heap[bl60]? = some (strBlock tlI) → W.cell? ⟨bl60, r55, none⟩ = some (.string (S (tlI.getD r55 [])))) := Lib.hid (fun W q => str_cell q r55 (show r55 < tlI.length from hr55))
          generalize tlI.getD r55 [] = st61 at *
          refine wpAnyH_stronger (S' := fun W => (W.cell? ⟨X.wb, 0, none⟩ = some (.pointer (some ⟨X.g, 0, none⟩))) ∧ W.cell? ⟨bl60, r55, none⟩ = some (.string (S st61))) (fun _ q => q.1) ?_
          have hlS61 : (S st61).size ≤ 10 := by rw [S_size]; omega
          refine wpAnyH_take (i := 12) (oi := { dst := some 26, op := Op.load 9 (Operand.tmp 25), type := 9, pos := "source.go:136", after := #[{ on := 11, ground := Ground.data }], guard := none }) (v := ?_) rfl (by kernel_rfl) (by kernel_rfl) (by kernel_rfl) (fun _ _ _ h => h) (Or.inl ⟨by rfl, ?_⟩) (⟨HG60.out.c0, hl61⟩) ?_
          rotate_left 1
          · intro w hSw
            (try dsimp only at hSw); have hSa := hSw.1; have hSb := hSw.2; clear hSw
            go_simp
            first
              | done
              | with_reducible rfl
              | rw [if_neg (by omega)]
          try simp only [Act.put, List.setIfInBounds_toArray, List.set_cons_zero, List.set_cons_succ]
          refine wpAnyH_take (i := 13) (oi := { dst := some 27, op := Op.binOp BinOp.add 9 (Operand.tmp 18) (Operand.tmp 26) 9, type := 9, pos := "source.go:136", after := #[{ on := 4, ground := Ground.data }, { on := 12, ground := Ground.data }], guard := none }) (v := ?_) rfl (by kernel_rfl) (by kernel_rfl) (by kernel_rfl) (fun _ _ _ h => h) (Or.inl ⟨by rfl, ?_⟩) (⟨HG60.out.c0, hl61⟩) ?_
          rotate_left 1
          · intro w hSw
            (try dsimp only at hSw); have hSa := hSw.1; have hSb := hSw.2; clear hSw
            go_simp
            first
              | done
              | with_reducible rfl
              | rw [if_neg (by omega)]
          try simp only [Act.put, List.setIfInBounds_toArray, List.set_cons_zero, List.set_cons_succ]
          refine wpAnyH_take (i := 18) (oi := { dst := some 32, op := Op.binOp BinOp.add 9 (Operand.tmp 27) (Operand.tmp 31) 9, type := 9, pos := "source.go:136", after := #[{ on := 13, ground := Ground.data }, { on := 17, ground := Ground.data }], guard := none }) (v := ?_) rfl (by kernel_rfl) (by kernel_rfl) (by kernel_rfl) (fun _ _ _ h => h) (Or.inl ⟨by rfl, ?_⟩) (⟨HG60.out.c0, hl61⟩) ?_
          rotate_left 1
          · intro w hSw
            (try dsimp only at hSw); have hSa := hSw.1; have hSb := hSw.2; clear hSw
            go_simp
            first
              | done
              | with_reducible rfl
              | rw [if_neg (by omega)]
          try simp only [Act.put, List.setIfInBounds_toArray, List.set_cons_zero, List.set_cons_succ]
          refine wpAnyH_take (i := 19) (oi := { dst := some 33, op := Op.binOp BinOp.add 9 (Operand.tmp 32) (Operand.const (Value.string { data := #[41] })) 9, type := 9, pos := "source.go:136", after := #[{ on := 18, ground := Ground.data }], guard := none }) (v := ?_) rfl (by kernel_rfl) (by kernel_rfl) (by kernel_rfl) (fun _ _ _ h => h) (Or.inl ⟨by rfl, ?_⟩) (⟨HG60.out.c0, hl61⟩) ?_
          rotate_left 1
          · intro w hSw
            (try dsimp only at hSw); have hSa := hSw.1; have hSb := hSw.2; clear hSw
            go_simp
            first
              | done
              | with_reducible rfl
              | rw [if_neg (by omega)]
          try simp only [Act.put, List.setIfInBounds_toArray, List.set_cons_zero, List.set_cons_succ]
          refine wpAnyH_take (i := 20) (oi := { dst := some 4, op := Op.assign (Operand.tmp 33), type := 9, pos := "source.go:136", after := #[{ on := 19, ground := Ground.data }, { on := 17, ground := Ground.chain }, { on := 0, ground := Ground.phase }, { on := 1, ground := Ground.phase }, { on := 2, ground := Ground.phase }, { on := 3, ground := Ground.phase }, { on := 4, ground := Ground.phase }, { on := 5, ground := Ground.phase }, { on := 6, ground := Ground.phase }, { on := 7, ground := Ground.phase }, { on := 8, ground := Ground.phase }, { on := 9, ground := Ground.phase }, { on := 10, ground := Ground.phase }, { on := 11, ground := Ground.phase }, { on := 12, ground := Ground.phase }, { on := 13, ground := Ground.phase }, { on := 14, ground := Ground.phase }, { on := 15, ground := Ground.phase }, { on := 16, ground := Ground.phase }, { on := 17, ground := Ground.phase }, { on := 18, ground := Ground.phase }, { on := 19, ground := Ground.phase }], guard := none }) (v := ?_) rfl (by kernel_rfl) (by kernel_rfl) (by kernel_rfl) (fun _ _ _ h => h) (Or.inl ⟨by rfl, ?_⟩) (⟨HG60.out.c0, hl61⟩) ?_
          rotate_left 1
          · intro w hSw
            (try dsimp only at hSw); have hSa := hSw.1; have hSb := hSw.2; clear hSw
            go_simp
            first
              | done
              | with_reducible rfl
              | rw [if_neg (by omega)]
          try simp only [Act.put, List.setIfInBounds_toArray, List.set_cons_zero, List.set_cons_succ]
          refine wpAnyH_done (by kernel_rfl) ?_ _
          refine NoPanic.normal ?_
          go_wp2_with fail
          go_ret
          exact ⟨_, f59, rfl, by (try simp [ByteArray.size_append, size_lit]); omega, by omega, by omega, (HG60.out.back hgb60), HK60.out⟩
    · go_simp
      try dsimp only
      have HG62 := Lib.hid (HGd.out.more (strBlock tlI))
      have HK62 := Lib.hid (HKd.out.alloc HL.out (strBlock tlI))
      have HB62 : Hid ((wd.alloc (strBlock tlI)).heap[wd.heap.size]? = some (strBlock tlI)) := heap_alloc_new wd _
      have hgb62 := HGd.out.gl
      refine hK.out _ (wd.alloc (strBlock tlI)) (HG62.out.c0) (fun _ => ?_)
      clear hK K
      generalize hwe62 : wd.alloc (strBlock tlI) = wl62 at *
      clear hwe62
      generalize hbe62 : wd.heap.size = bl62 at *
      clear hbe62
      try simp only [Act.put, List.setIfInBounds_toArray, List.set_cons_zero, List.set_cons_succ]
      refine wpAnyH_ready (rs := [3]) (by kernel_rfl) (by simp) ?_
      refine AllReadyH.cons (o := { dst := some 17, op := Op.call { callee := Callee.value (Operand.func 17), args := #[Operand.tmp 14, Operand.const (Value.int IntKind.i64 0), Operand.tmp 16], argTypes := #[45, 3, 3] }, type := 9, pos := "source.go:136", after := #[{ on := 0, ground := Ground.data }, { on := 2, ground := Ground.data }], guard := none }) rfl (fun K hK => ?_) (AllReadyH.nil)
      go_simp
      go_at_call 17
      refine (HE.out _ _ _ _ _ _ HG62.out HN.out (by omega)).mono ?_
      rintro e w63 ⟨s63, f63, rfl, hs63, hf63, hg63, hG63, hK63⟩
      have HG63 := Lib.hid hG63
      have HK63 := Lib.hid (HK62.out.trans (hK63.mono fun _ q => .inl q))
      have HB63 := Lib.hid ((hK63.block _ (.inr rfl)).trans HB62.out)
      clear hG63 hK63
      try dsimp only
      have hb63 : s63.size ≤ 500 := by omega
      refine hK.out _ _ (HG63.out.c0) (fun _ => ?_)
      clear hK K
      try simp only [Act.put, List.setIfInBounds_toArray, List.set_cons_zero, List.set_cons_succ]
      refine wpAnyH_take (i := 4) (oi := { dst := some 18, op := Op.binOp BinOp.add 9 (Operand.const (Value.string { data := #[40] })) (Operand.tmp 17) 9, type := 9, pos := "source.go:136", after := #[{ on := 3, ground := Ground.data }], guard := none }) (v := ?_) rfl (by kernel_rfl) (by kernel_rfl) (by kernel_rfl) (fun _ _ _ h => h) (Or.inl ⟨by rfl, ?_⟩) (HG63.out.c0) ?_
      rotate_left 1
      · intro w hSw
        try dsimp only at hSw
        go_simp
        first
          | done
          | with_reducible rfl
          | rw [if_neg (by omega)]
      try simp only [Act.put, List.setIfInBounds_toArray, List.set_cons_zero, List.set_cons_succ]
      refine wpAnyH_ready (rs := [10]) (by kernel_rfl) (by simp) ?_
      refine AllReadyH.cons (o := { dst := some 24, op := Op.call { callee := Callee.value (Operand.func 14), args := #[Operand.tmp 23, Operand.const (Value.int IntKind.i64 5)], argTypes := #[40, 3] }, type := 3, pos := "source.go:136", after := #[{ on := 9, ground := Ground.data }, { on := 3, ground := Ground.chain }], guard := none }) rfl (fun K hK => ?_) (AllReadyH.nil)
      go_simp
      go_at_call 14
      refine (gnext 5 5 rfl (by decide) (by decide) HG63.out HN.out).mono ?_
      rintro e w64 ⟨r64, hr64, rfl, hG64, hK64⟩
      have HG64 := Lib.hid hG64
      have HK64 := Lib.hid (HK63.out.trans (hK64.mono fun _ q => .inl q))
      have HB64 := Lib.hid ((hK64.block _ (.inr rfl)).trans HB63.out)
      clear hG64 hK64
      try dsimp only
      have hx64 : (0 : Int) ≤ (r64 : Int) := by omega
      have hy64 : (r64 : Int) < 5 := by omega
      have hd64 := digS_size r64
      refine hK.out _ _ (HG64.out.c0) (fun _ => ?_)
      clear hK K
      try simp only [Act.put, List.setIfInBounds_toArray, List.set_cons_zero, List.set_cons_succ]
      refine wpAnyH_take (i := 11) (oi := { dst := some 25, op := Op.indexAddr 44 (Operand.tmp 19) (Operand.tmp 24), type := 0, pos := "source.go:136", after := #[{ on := 5, ground := Ground.data }, { on := 10, ground := Ground.data }], guard := none }) (v := ?_) rfl (by kernel_rfl) (by kernel_rfl) (by kernel_rfl) (fun _ _ _ h => h) (Or.inl ⟨by rfl, ?_⟩) (HG64.out.c0) ?_
      rotate_left 1
      · intro w hSw
        try dsimp only at hSw
        go_simp
        first
          | done
          | with_reducible rfl
          | rw [if_neg (by omega)]
      try simp only [Act.put, List.setIfInBounds_toArray, List.set_cons_zero, List.set_cons_succ]
      have hl65 : w64.cell? ⟨bl62, r64, none⟩ = some (.string (S (tlI.getD r64 []))) := str_cell HB64.out r64 (show r64 < tlI.length from hr64)
      have hle65 := tlI_le r64 hr64
      have hlc65 : Hid (∀ W : World, W.heap[bl62]? = some (strBlock tlI) → W.cell? ⟨bl62, r64, none⟩ = some (.string (S (tlI.getD r64 [])))) := Lib.hid (fun W q => str_cell q r64 (show r64 < tlI.length from hr64))
      generalize tlI.getD r64 [] = st65 at *
      refine wpAnyH_stronger (S' := fun W => (W.cell? ⟨X.wb, 0, none⟩ = some (.pointer (some ⟨X.g, 0, none⟩))) ∧ W.cell? ⟨bl62, r64, none⟩ = some (.string (S st65))) (fun _ q => q.1) ?_
      have hlS65 : (S st65).size ≤ 10 := by rw [S_size]; omega
      refine wpAnyH_take (i := 12) (oi := { dst := some 26, op := Op.load 9 (Operand.tmp 25), type := 9, pos := "source.go:136", after := #[{ on := 11, ground := Ground.data }], guard := none }) (v := ?_) rfl (by kernel_rfl) (by kernel_rfl) (by kernel_rfl) (fun _ _ _ h => h) (Or.inl ⟨by rfl, ?_⟩) (⟨HG64.out.c0, hl65⟩) ?_
      rotate_left 1
      · intro w hSw
        (try dsimp only at hSw); have hSa := hSw.1; have hSb := hSw.2; clear hSw
        go_simp
        first
          | done
          | with_reducible rfl
          | rw [if_neg (by omega)]
      try simp only [Act.put, List.setIfInBounds_toArray, List.set_cons_zero, List.set_cons_succ]
      refine wpAnyH_take (i := 13) (oi := { dst := some 27, op := Op.binOp BinOp.add 9 (Operand.tmp 18) (Operand.tmp 26) 9, type := 9, pos := "source.go:136", after := #[{ on := 4, ground := Ground.data }, { on := 12, ground := Ground.data }], guard := none }) (v := ?_) rfl (by kernel_rfl) (by kernel_rfl) (by kernel_rfl) (fun _ _ _ h => h) (Or.inl ⟨by rfl, ?_⟩) (⟨HG64.out.c0, hl65⟩) ?_
      rotate_left 1
      · intro w hSw
        (try dsimp only at hSw); have hSa := hSw.1; have hSb := hSw.2; clear hSw
        go_simp
        first
          | done
          | with_reducible rfl
          | rw [if_neg (by omega)]
      try simp only [Act.put, List.setIfInBounds_toArray, List.set_cons_zero, List.set_cons_succ]
      refine wpAnyH_ready (rs := [17]) (by kernel_rfl) (by simp) ?_
      refine AllReadyH.cons (o := { dst := some 31, op := Op.call { callee := Callee.value (Operand.func 17), args := #[Operand.tmp 28, Operand.const (Value.int IntKind.i64 0), Operand.tmp 30], argTypes := #[45, 3, 3] }, type := 9, pos := "source.go:136", after := #[{ on := 14, ground := Ground.data }, { on := 16, ground := Ground.data }, { on := 10, ground := Ground.chain }], guard := none }) rfl (fun K hK => ?_) (AllReadyH.nil)
      go_simp
      go_at_call 17
      refine (HE.out _ _ _ _ _ _ HG64.out HN.out (by omega)).mono ?_
      rintro e w66 ⟨s66, f66, rfl, hs66, hf66, hg66, hG66, hK66⟩
      have HG66 := Lib.hid hG66
      have HK66 := Lib.hid (HK64.out.trans (hK66.mono fun _ q => .inl q))
      have HB66 := Lib.hid ((hK66.block _ (.inr rfl)).trans HB64.out)
      have hl66 := hlc65.out _ HB66.out
      clear hG66 hK66
      try dsimp only
      have hb66 : s66.size ≤ 500 := by omega
      refine hK.out _ _ (⟨HG66.out.c0, hl66⟩) (fun _ => ?_)
      clear hK K
      try simp only [Act.put, List.setIfInBounds_toArray, List.set_cons_zero, List.set_cons_succ]
      refine wpAnyH_take (i := 18) (oi := { dst := some 32, op := Op.binOp BinOp.add 9 (Operand.tmp 27) (Operand.tmp 31) 9, type := 9, pos := "source.go:136", after := #[{ on := 13, ground := Ground.data }, { on := 17, ground := Ground.data }], guard := none }) (v := ?_) rfl (by kernel_rfl) (by kernel_rfl) (by kernel_rfl) (fun _ _ _ h => h) (Or.inl ⟨by rfl, ?_⟩) (⟨HG66.out.c0, hl66⟩) ?_
      rotate_left 1
      · intro w hSw
        (try dsimp only at hSw); have hSa := hSw.1; have hSb := hSw.2; clear hSw
        go_simp
        first
          | done
          | with_reducible rfl
          | rw [if_neg (by omega)]
      try simp only [Act.put, List.setIfInBounds_toArray, List.set_cons_zero, List.set_cons_succ]
      refine wpAnyH_take (i := 19) (oi := { dst := some 33, op := Op.binOp BinOp.add 9 (Operand.tmp 32) (Operand.const (Value.string { data := #[41] })) 9, type := 9, pos := "source.go:136", after := #[{ on := 18, ground := Ground.data }], guard := none }) (v := ?_) rfl (by kernel_rfl) (by kernel_rfl) (by kernel_rfl) (fun _ _ _ h => h) (Or.inl ⟨by rfl, ?_⟩) (⟨HG66.out.c0, hl66⟩) ?_
      rotate_left 1
      · intro w hSw
        (try dsimp only at hSw); have hSa := hSw.1; have hSb := hSw.2; clear hSw
        go_simp
        first
          | done
          | with_reducible rfl
          | rw [if_neg (by omega)]
      try simp only [Act.put, List.setIfInBounds_toArray, List.set_cons_zero, List.set_cons_succ]
      refine wpAnyH_take (i := 20) (oi := { dst := some 4, op := Op.assign (Operand.tmp 33), type := 9, pos := "source.go:136", after := #[{ on := 19, ground := Ground.data }, { on := 17, ground := Ground.chain }, { on := 0, ground := Ground.phase }, { on := 1, ground := Ground.phase }, { on := 2, ground := Ground.phase }, { on := 3, ground := Ground.phase }, { on := 4, ground := Ground.phase }, { on := 5, ground := Ground.phase }, { on := 6, ground := Ground.phase }, { on := 7, ground := Ground.phase }, { on := 8, ground := Ground.phase }, { on := 9, ground := Ground.phase }, { on := 10, ground := Ground.phase }, { on := 11, ground := Ground.phase }, { on := 12, ground := Ground.phase }, { on := 13, ground := Ground.phase }, { on := 14, ground := Ground.phase }, { on := 15, ground := Ground.phase }, { on := 16, ground := Ground.phase }, { on := 17, ground := Ground.phase }, { on := 18, ground := Ground.phase }, { on := 19, ground := Ground.phase }], guard := none }) (v := ?_) rfl (by kernel_rfl) (by kernel_rfl) (by kernel_rfl) (fun _ _ _ h => h) (Or.inl ⟨by rfl, ?_⟩) (⟨HG66.out.c0, hl66⟩) ?_
      rotate_left 1
      · intro w hSw
        (try dsimp only at hSw); have hSa := hSw.1; have hSb := hSw.2; clear hSw
        go_simp
        first
          | done
          | with_reducible rfl
          | rw [if_neg (by omega)]
      try simp only [Act.put, List.setIfInBounds_toArray, List.set_cons_zero, List.set_cons_succ]
      refine wpAnyH_done (by kernel_rfl) ?_ _
      refine NoPanic.normal ?_
      go_wp2_with fail
      go_ret
      exact ⟨_, f66, rfl, by (try simp [ByteArray.size_append, size_lit]); omega, by omega, by omega, (HG66.out.back hgb62), HK66.out⟩
  · go_wp2_with fail
    have HGd := Lib.hid HG1.out.drew
    have HKd := Lib.hid HK1.out.drew
    refine wp_region_noPanic ?_
    refine wp_region_held_drew (S := fun W => W.cell? ⟨X.wb, 0, none⟩ = some (.pointer (some ⟨X.g, 0, none⟩))) (by kernel_rfl) (HGd.out.c0) (fun _ => ?_)
    generalize w1.drew = wd at *
    try simp only [Act.put, List.setIfInBounds_toArray, List.set_cons_zero, List.set_cons_succ]
    refine wpAnyH_take (i := 0) (oi := { dst := some 36, op := Op.move (Operand.tmp 0), type := 45, pos := "source.go:138", after := #[], guard := none }) (v := ?_) rfl (by kernel_rfl) (by kernel_rfl) (by kernel_rfl) (fun _ _ _ h => h) (Or.inl ⟨by rfl, ?_⟩) (HGd.out.c0) ?_
    rotate_left 1
    · intro w hSw
      try dsimp only at hSw
      go_simp
      first
        | done
        | with_reducible rfl
        | rw [if_neg (by omega)]
    try simp only [Act.put, List.setIfInBounds_toArray, List.set_cons_zero, List.set_cons_succ]
    refine wpAnyH_take (i := 1) (oi := { dst := some 37, op := Op.move (Operand.tmp 1), type := 3, pos := "source.go:138", after := #[], guard := none }) (v := ?_) rfl (by kernel_rfl) (by kernel_rfl) (by kernel_rfl) (fun _ _ _ h => h) (Or.inl ⟨by rfl, ?_⟩) (HGd.out.c0) ?_
    rotate_left 1
    · intro w hSw
      try dsimp only at hSw
      go_simp
      first
        | done
        | with_reducible rfl
        | rw [if_neg (by omega)]
    try simp only [Act.put, List.setIfInBounds_toArray, List.set_cons_zero, List.set_cons_succ]
    refine wpAnyH_take (i := 2) (oi := { dst := some 38, op := Op.binOp BinOp.sub 3 (Operand.tmp 37) (Operand.const (Value.int IntKind.i64 1)) 3, type := 3, pos := "source.go:138", after := #[{ on := 1, ground := Ground.data }], guard := none }) (v := ?_) rfl (by kernel_rfl) (by kernel_rfl) (by kernel_rfl) (fun _ _ _ h => h) (Or.inl ⟨by rfl, ?_⟩) (HGd.out.c0) ?_
    rotate_left 1
    · intro w hSw
      try dsimp only at hSw
      go_simp
      first
        | done
        | with_reducible rfl
        | rw [if_neg (by omega)]
    try simp only [Act.put, List.setIfInBounds_toArray, List.set_cons_zero, List.set_cons_succ]
    refine wpAnyH_take (i := 6) (oi := { dst := some 42, op := Op.move (Operand.tmp 0), type := 45, pos := "source.go:138", after := #[], guard := none }) (v := ?_) rfl (by kernel_rfl) (by kernel_rfl) (by kernel_rfl) (fun _ _ _ h => h) (Or.inl ⟨by rfl, ?_⟩) (HGd.out.c0) ?_
    rotate_left 1
    · intro w hSw
      try dsimp only at hSw
      go_simp
      first
        | done
        | with_reducible rfl
        | rw [if_neg (by omega)]
    try simp only [Act.put, List.setIfInBounds_toArray, List.set_cons_zero, List.set_cons_succ]
    refine wpAnyH_take (i := 7) (oi := { dst := some 43, op := Op.nilCheck (Operand.tmp 42), type := 0, pos := "source.go:138", after := #[{ on := 6, ground := Ground.data }], guard := none }) (v := ?_) rfl (by kernel_rfl) (by kernel_rfl) (by kernel_rfl) (fun _ _ _ h => h) (Or.inl ⟨by rfl, ?_⟩) (HGd.out.c0) ?_
    rotate_left 1
    · intro w hSw
      try dsimp only at hSw
      go_simp
      first
        | done
        | with_reducible rfl
        | rw [if_neg (by omega)]
    try simp only [Act.put, List.setIfInBounds_toArray, List.set_cons_zero, List.set_cons_succ]
    refine wpAnyH_take (i := 8) (oi := { dst := some 44, op := Op.fieldAddr 47 (Operand.tmp 43) 0, type := 0, pos := "source.go:138", after := #[{ on := 7, ground := Ground.data }], guard := none }) (v := ?_) rfl (by kernel_rfl) (by kernel_rfl) (by kernel_rfl) (fun _ _ _ h => h) (Or.inl ⟨by rfl, ?_⟩) (HGd.out.c0) ?_
    rotate_left 1
    · intro w hSw
      try dsimp only at hSw
      go_simp
      first
        | done
        | with_reducible rfl
        | rw [if_neg (by omega)]
    try simp only [Act.put, List.setIfInBounds_toArray, List.set_cons_zero, List.set_cons_succ]
    refine wpAnyH_take (i := 9) (oi := { dst := some 45, op := Op.load 40 (Operand.tmp 44), type := 40, pos := "source.go:138", after := #[{ on := 8, ground := Ground.data }], guard := none }) (v := ?_) rfl (by kernel_rfl) (by kernel_rfl) (by kernel_rfl) (fun _ _ _ h => h) (Or.inl ⟨by rfl, ?_⟩) (HGd.out.c0) ?_
    rotate_left 1
    · intro w hSw
      try dsimp only at hSw
      go_simp
      first
        | done
        | with_reducible rfl
        | rw [if_neg (by omega)]
    try simp only [Act.put, List.setIfInBounds_toArray, List.set_cons_zero, List.set_cons_succ]
    refine wpAnyH_take (i := 14) (oi := { dst := some 50, op := Op.move (Operand.tmp 0), type := 45, pos := "source.go:138", after := #[], guard := none }) (v := ?_) rfl (by kernel_rfl) (by kernel_rfl) (by kernel_rfl) (fun _ _ _ h => h) (Or.inl ⟨by rfl, ?_⟩) (HGd.out.c0) ?_
    rotate_left 1
    · intro w hSw
      try dsimp only at hSw
      go_simp
      first
        | done
        | with_reducible rfl
        | rw [if_neg (by omega)]
    try simp only [Act.put, List.setIfInBounds_toArray, List.set_cons_zero, List.set_cons_succ]
    refine wpAnyH_take (i := 15) (oi := { dst := some 51, op := Op.move (Operand.tmp 1), type := 3, pos := "source.go:138", after := #[], guard := none }) (v := ?_) rfl (by kernel_rfl) (by kernel_rfl) (by kernel_rfl) (fun _ _ _ h => h) (Or.inl ⟨by rfl, ?_⟩) (HGd.out.c0) ?_
    rotate_left 1
    · intro w hSw
      try dsimp only at hSw
      go_simp
      first
        | done
        | with_reducible rfl
        | rw [if_neg (by omega)]
    try simp only [Act.put, List.setIfInBounds_toArray, List.set_cons_zero, List.set_cons_succ]
    refine wpAnyH_take (i := 16) (oi := { dst := some 52, op := Op.binOp BinOp.sub 3 (Operand.tmp 51) (Operand.const (Value.int IntKind.i64 1)) 3, type := 3, pos := "source.go:138", after := #[{ on := 15, ground := Ground.data }], guard := none }) (v := ?_) rfl (by kernel_rfl) (by kernel_rfl) (by kernel_rfl) (fun _ _ _ h => h) (Or.inl ⟨by rfl, ?_⟩) (HGd.out.c0) ?_
    rotate_left 1
    · intro w hSw
      try dsimp only at hSw
      go_simp
      first
        | done
        | with_reducible rfl
        | rw [if_neg (by omega)]
    try simp only [Act.put, List.setIfInBounds_toArray, List.set_cons_zero, List.set_cons_succ]
    refine wpAnyH_ready (rs := [3, 5]) (by kernel_rfl) (by simp) ?_
    refine AllReadyH.cons (o := { dst := some 39, op := Op.call { callee := Callee.value (Operand.func 17), args := #[Operand.tmp 36, Operand.const (Value.int IntKind.i64 1), Operand.tmp 38], argTypes := #[45, 3, 3] }, type := 9, pos := "source.go:138", after := #[{ on := 0, ground := Ground.data }, { on := 2, ground := Ground.data }], guard := none }) rfl (fun K hK => ?_) (AllReadyH.cons (o := { dst := some 41, op := Op.buildSlice 44 2 #[(0, Operand.const (Value.string { data := #[32, 97, 110, 100, 32] })), (1, Operand.const (Value.string { data := #[32, 111, 114, 32] }))], type := 44, pos := "source.go:138", after := #[], guard := none }) rfl (fun K hK => ?_) (AllReadyH.nil))
    · go_simp
      go_at_call 17
      refine (HE.out _ _ _ _ _ _ HGd.out HN.out (by omega)).mono ?_
      rintro e w50 ⟨s50, f50, rfl, hs50, hf50, hg50, hG50, hK50⟩
      have HG50 := Lib.hid hG50
      have HK50 := Lib.hid (HKd.out.trans hK50)
      clear hG50 hK50
      try dsimp only
      have hb50 : s50.size ≤ 500 := by omega
      refine hK.out _ _ (HG50.out.c0) (fun _ => ?_)
      clear hK K
      try simp only [Act.put, List.setIfInBounds_toArray, List.set_cons_zero, List.set_cons_succ]
      refine wpAnyH_take (i := 4) (oi := { dst := some 40, op := Op.binOp BinOp.add 9 (Operand.const (Value.string { data := #[40] })) (Operand.tmp 39) 9, type := 9, pos := "source.go:138", after := #[{ on := 3, ground := Ground.data }], guard := none }) (v := ?_) rfl (by kernel_rfl) (by kernel_rfl) (by kernel_rfl) (fun _ _ _ h => h) (Or.inl ⟨by rfl, ?_⟩) (HG50.out.c0) ?_
      rotate_left 1
      · intro w hSw
        try dsimp only at hSw
        go_simp
        first
          | done
          | with_reducible rfl
          | rw [if_neg (by omega)]
      try simp only [Act.put, List.setIfInBounds_toArray, List.set_cons_zero, List.set_cons_succ]
      refine wpAnyH_ready (rs := [5, 10]) (by kernel_rfl) (by simp) ?_
      refine AllReadyH.cons (o := { dst := some 41, op := Op.buildSlice 44 2 #[(0, Operand.const (Value.string { data := #[32, 97, 110, 100, 32] })), (1, Operand.const (Value.string { data := #[32, 111, 114, 32] }))], type := 44, pos := "source.go:138", after := #[], guard := none }) rfl (fun K hK => ?_) (AllReadyH.cons (o := { dst := some 46, op := Op.call { callee := Callee.value (Operand.func 14), args := #[Operand.tmp 45, Operand.const (Value.int IntKind.i64 2)], argTypes := #[40, 3] }, type := 3, pos := "source.go:138", after := #[{ on := 9, ground := Ground.data }, { on := 3, ground := Ground.chain }], guard := none }) rfl (fun K hK => ?_) (AllReadyH.nil))
      · go_simp
        try dsimp only
        have HG51 := Lib.hid (HG50.out.more (strBlock tlJ))
        have HK51 := Lib.hid (HK50.out.alloc HL.out (strBlock tlJ))
        have HB51 : Hid ((w50.alloc (strBlock tlJ)).heap[w50.heap.size]? = some (strBlock tlJ)) := heap_alloc_new w50 _
        have hgb51 := HG50.out.gl
        refine hK.out _ (w50.alloc (strBlock tlJ)) (HG51.out.c0) (fun _ => ?_)
        clear hK K
        generalize hwe51 : w50.alloc (strBlock tlJ) = wl51 at *
        clear hwe51
        generalize hbe51 : w50.heap.size = bl51 at *
        clear hbe51
        try simp only [Act.put, List.setIfInBounds_toArray, List.set_cons_zero, List.set_cons_succ]
        refine wpAnyH_ready (rs := [10]) (by kernel_rfl) (by simp) ?_
        refine AllReadyH.cons (o := { dst := some 46, op := Op.call { callee := Callee.value (Operand.func 14), args := #[Operand.tmp 45, Operand.const (Value.int IntKind.i64 2)], argTypes := #[40, 3] }, type := 3, pos := "source.go:138", after := #[{ on := 9, ground := Ground.data }, { on := 3, ground := Ground.chain }], guard := none }) rfl (fun K hK => ?_) (AllReadyH.nil)
        go_simp
        go_at_call 14
        refine (gnext 2 2 rfl (by decide) (by decide) HG51.out HN.out).mono ?_
        rintro e w52 ⟨r52, hr52, rfl, hG52, hK52⟩
        have HG52 := Lib.hid hG52
        have HK52 := Lib.hid (HK51.out.trans (hK52.mono fun _ q => .inl q))
        have HB52 := Lib.hid ((hK52.block _ (.inr rfl)).trans HB51.out)
        clear hG52 hK52
        try dsimp only
        have hx52 : (0 : Int) ≤ (r52 : Int) := by omega
        have hy52 : (r52 : Int) < 2 := by omega
        have hd52 := digS_size r52
        refine hK.out _ _ (HG52.out.c0) (fun _ => ?_)
        clear hK K
        try simp only [Act.put, List.setIfInBounds_toArray, List.set_cons_zero, List.set_cons_succ]
        refine wpAnyH_take (i := 11) (oi := { dst := some 47, op := Op.indexAddr 44 (Operand.tmp 41) (Operand.tmp 46), type := 0, pos := "source.go:138", after := #[{ on := 5, ground := Ground.data }, { on := 10, ground := Ground.data }], guard := none }) (v := ?_) rfl (by kernel_rfl) (by kernel_rfl) (by kernel_rfl) (fun _ _ _ h => h) (Or.inl ⟨by rfl, ?_⟩) (HG52.out.c0) ?_
        rotate_left 1
        · intro w hSw
          try dsimp only at hSw
          go_simp
          first
            | done
            | with_reducible rfl
            | rw [if_neg (by omega)]
        try simp only [Act.put, List.setIfInBounds_toArray, List.set_cons_zero, List.set_cons_succ]
        have hl53 : w52.cell? ⟨bl51, r52, none⟩ = some (.string (S (tlJ.getD r52 []))) := str_cell HB52.out r52 (show r52 < tlJ.length from hr52)
        have hle53 := tlJ_le r52 hr52
        have hlc53 : Hid (∀ W : World, W.heap[bl51]? = some (strBlock tlJ) → W.cell? ⟨bl51, r52, none⟩ = some (.string (S (tlJ.getD r52 [])))) := Lib.hid (fun W q => str_cell q r52 (show r52 < tlJ.length from hr52))
        generalize tlJ.getD r52 [] = st53 at *
        refine wpAnyH_stronger (S' := fun W => (W.cell? ⟨X.wb, 0, none⟩ = some (.pointer (some ⟨X.g, 0, none⟩))) ∧ W.cell? ⟨bl51, r52, none⟩ = some (.string (S st53))) (fun _ q => q.1) ?_
        have hlS53 : (S st53).size ≤ 10 := by rw [S_size]; omega
        refine wpAnyH_take (i := 12) (oi := { dst := some 48, op := Op.load 9 (Operand.tmp 47), type := 9, pos := "source.go:138", after := #[{ on := 11, ground := Ground.data }], guard := none }) (v := ?_) rfl (by kernel_rfl) (by kernel_rfl) (by kernel_rfl) (fun _ _ _ h => h) (Or.inl ⟨by rfl, ?_⟩) (⟨HG52.out.c0, hl53⟩) ?_
        rotate_left 1
        · intro w hSw
          (try dsimp only at hSw); have hSa := hSw.1; have hSb := hSw.2; clear hSw
          go_simp
          first
            | done
            | with_reducible rfl
            | rw [if_neg (by omega)]
        try simp only [Act.put, List.setIfInBounds_toArray, List.set_cons_zero, List.set_cons_succ]
        refine wpAnyH_take (i := 13) (oi := { dst := some 49, op := Op.binOp BinOp.add 9 (Operand.tmp 40) (Operand.tmp 48) 9, type := 9, pos := "source.go:138", after := #[{ on := 4, ground := Ground.data }, { on := 12, ground := Ground.data }], guard := none }) (v := ?_) rfl (by kernel_rfl) (by kernel_rfl) (by kernel_rfl) (fun _ _ _ h => h) (Or.inl ⟨by rfl, ?_⟩) (⟨HG52.out.c0, hl53⟩) ?_
        rotate_left 1
        · intro w hSw
          (try dsimp only at hSw); have hSa := hSw.1; have hSb := hSw.2; clear hSw
          go_simp
          first
            | done
            | with_reducible rfl
            | rw [if_neg (by omega)]
        try simp only [Act.put, List.setIfInBounds_toArray, List.set_cons_zero, List.set_cons_succ]
        refine wpAnyH_ready (rs := [17]) (by kernel_rfl) (by simp) ?_
        refine AllReadyH.cons (o := { dst := some 53, op := Op.call { callee := Callee.value (Operand.func 17), args := #[Operand.tmp 50, Operand.const (Value.int IntKind.i64 1), Operand.tmp 52], argTypes := #[45, 3, 3] }, type := 9, pos := "source.go:138", after := #[{ on := 14, ground := Ground.data }, { on := 16, ground := Ground.data }, { on := 10, ground := Ground.chain }], guard := none }) rfl (fun K hK => ?_) (AllReadyH.nil)
        go_simp
        go_at_call 17
        refine (HE.out _ _ _ _ _ _ HG52.out HN.out (by omega)).mono ?_
        rintro e w54 ⟨s54, f54, rfl, hs54, hf54, hg54, hG54, hK54⟩
        have HG54 := Lib.hid hG54
        have HK54 := Lib.hid (HK52.out.trans (hK54.mono fun _ q => .inl q))
        have HB54 := Lib.hid ((hK54.block _ (.inr rfl)).trans HB52.out)
        have hl54 := hlc53.out _ HB54.out
        clear hG54 hK54
        try dsimp only
        have hb54 : s54.size ≤ 500 := by omega
        refine hK.out _ _ (⟨HG54.out.c0, hl54⟩) (fun _ => ?_)
        clear hK K
        try simp only [Act.put, List.setIfInBounds_toArray, List.set_cons_zero, List.set_cons_succ]
        refine wpAnyH_take (i := 18) (oi := { dst := some 54, op := Op.binOp BinOp.add 9 (Operand.tmp 49) (Operand.tmp 53) 9, type := 9, pos := "source.go:138", after := #[{ on := 13, ground := Ground.data }, { on := 17, ground := Ground.data }], guard := none }) (v := ?_) rfl (by kernel_rfl) (by kernel_rfl) (by kernel_rfl) (fun _ _ _ h => h) (Or.inl ⟨by rfl, ?_⟩) (⟨HG54.out.c0, hl54⟩) ?_
        rotate_left 1
        · intro w hSw
          (try dsimp only at hSw); have hSa := hSw.1; have hSb := hSw.2; clear hSw
          go_simp
          first
            | done
            | with_reducible rfl
            | rw [if_neg (by omega)]
        try simp only [Act.put, List.setIfInBounds_toArray, List.set_cons_zero, List.set_cons_succ]
        refine wpAnyH_take (i := 19) (oi := { dst := some 55, op := Op.binOp BinOp.add 9 (Operand.tmp 54) (Operand.const (Value.string { data := #[41] })) 9, type := 9, pos := "source.go:138", after := #[{ on := 18, ground := Ground.data }], guard := none }) (v := ?_) rfl (by kernel_rfl) (by kernel_rfl) (by kernel_rfl) (fun _ _ _ h => h) (Or.inl ⟨by rfl, ?_⟩) (⟨HG54.out.c0, hl54⟩) ?_
        rotate_left 1
        · intro w hSw
          (try dsimp only at hSw); have hSa := hSw.1; have hSb := hSw.2; clear hSw
          go_simp
          first
            | done
            | with_reducible rfl
            | rw [if_neg (by omega)]
        try simp only [Act.put, List.setIfInBounds_toArray, List.set_cons_zero, List.set_cons_succ]
        refine wpAnyH_take (i := 20) (oi := { dst := some 4, op := Op.assign (Operand.tmp 55), type := 9, pos := "source.go:138", after := #[{ on := 19, ground := Ground.data }, { on := 17, ground := Ground.chain }, { on := 0, ground := Ground.phase }, { on := 1, ground := Ground.phase }, { on := 2, ground := Ground.phase }, { on := 3, ground := Ground.phase }, { on := 4, ground := Ground.phase }, { on := 5, ground := Ground.phase }, { on := 6, ground := Ground.phase }, { on := 7, ground := Ground.phase }, { on := 8, ground := Ground.phase }, { on := 9, ground := Ground.phase }, { on := 10, ground := Ground.phase }, { on := 11, ground := Ground.phase }, { on := 12, ground := Ground.phase }, { on := 13, ground := Ground.phase }, { on := 14, ground := Ground.phase }, { on := 15, ground := Ground.phase }, { on := 16, ground := Ground.phase }, { on := 17, ground := Ground.phase }, { on := 18, ground := Ground.phase }, { on := 19, ground := Ground.phase }], guard := none }) (v := ?_) rfl (by kernel_rfl) (by kernel_rfl) (by kernel_rfl) (fun _ _ _ h => h) (Or.inl ⟨by rfl, ?_⟩) (⟨HG54.out.c0, hl54⟩) ?_
        rotate_left 1
        · intro w hSw
          (try dsimp only at hSw); have hSa := hSw.1; have hSb := hSw.2; clear hSw
          go_simp
          first
            | done
            | with_reducible rfl
            | rw [if_neg (by omega)]
        try simp only [Act.put, List.setIfInBounds_toArray, List.set_cons_zero, List.set_cons_succ]
        refine wpAnyH_done (by kernel_rfl) ?_ _
        refine NoPanic.normal ?_
        go_wp2_with fail
        go_ret
        exact ⟨_, f54, rfl, by (try simp [ByteArray.size_append, size_lit]); omega, by omega, by omega, (HG54.out.back hgb51), HK54.out⟩
      · go_simp
        go_at_call 14
        refine (gnext 2 2 rfl (by decide) (by decide) HG50.out HN.out).mono ?_
        rintro e w55 ⟨r55, hr55, rfl, hG55, hK55⟩
        have HG55 := Lib.hid hG55
        have HK55 := Lib.hid (HK50.out.trans hK55)
        clear hG55 hK55
        try dsimp only
        have hx55 : (0 : Int) ≤ (r55 : Int) := by omega
        have hy55 : (r55 : Int) < 2 := by omega
        have hd55 := digS_size r55
        refine hK.out _ _ (HG55.out.c0) (fun _ => ?_)
        clear hK K
        try simp only [Act.put, List.setIfInBounds_toArray, List.set_cons_zero, List.set_cons_succ]
        refine wpAnyH_ready (rs := [5, 17]) (by kernel_rfl) (by simp) ?_
        refine AllReadyH.cons (o := { dst := some 41, op := Op.buildSlice 44 2 #[(0, Operand.const (Value.string { data := #[32, 97, 110, 100, 32] })), (1, Operand.const (Value.string { data := #[32, 111, 114, 32] }))], type := 44, pos := "source.go:138", after := #[], guard := none }) rfl (fun K hK => ?_) (AllReadyH.cons (o := { dst := some 53, op := Op.call { callee := Callee.value (Operand.func 17), args := #[Operand.tmp 50, Operand.const (Value.int IntKind.i64 1), Operand.tmp 52], argTypes := #[45, 3, 3] }, type := 9, pos := "source.go:138", after := #[{ on := 14, ground := Ground.data }, { on := 16, ground := Ground.data }, { on := 10, ground := Ground.chain }], guard := none }) rfl (fun K hK => ?_) (AllReadyH.nil))
        · go_simp
          try dsimp only
          have HG56 := Lib.hid (HG55.out.more (strBlock tlJ))
          have HK56 := Lib.hid (HK55.out.alloc HL.out (strBlock tlJ))
          have HB56 : Hid ((w55.alloc (strBlock tlJ)).heap[w55.heap.size]? = some (strBlock tlJ)) := heap_alloc_new w55 _
          have hgb56 := HG55.out.gl
          refine hK.out _ (w55.alloc (strBlock tlJ)) (HG56.out.c0) (fun _ => ?_)
          clear hK K
          generalize hwe56 : w55.alloc (strBlock tlJ) = wl56 at *
          clear hwe56
          generalize hbe56 : w55.heap.size = bl56 at *
          clear hbe56
          try simp only [Act.put, List.setIfInBounds_toArray, List.set_cons_zero, List.set_cons_succ]
          refine wpAnyH_take (i := 11) (oi := { dst := some 47, op := Op.indexAddr 44 (Operand.tmp 41) (Operand.tmp 46), type := 0, pos := "source.go:138", after := #[{ on := 5, ground := Ground.data }, { on := 10, ground := Ground.data }], guard := none }) (v := ?_) rfl (by kernel_rfl) (by kernel_rfl) (by kernel_rfl) (fun _ _ _ h => h) (Or.inl ⟨by rfl, ?_⟩) (HG56.out.c0) ?_
          rotate_left 1
          · intro w hSw
            try dsimp only at hSw
            go_simp
            first
              | done
              | with_reducible rfl
              | rw [if_neg (by omega)]
          try simp only [Act.put, List.setIfInBounds_toArray, List.set_cons_zero, List.set_cons_succ]
          have hl57 : wl56.cell? ⟨bl56, r55, none⟩ = some (.string (S (tlJ.getD r55 []))) := str_cell HB56.out r55 (show r55 < tlJ.length from hr55)
          have hle57 := tlJ_le r55 hr55
          have hlc57 : Hid (∀ W : World, W.heap[bl56]? = some (strBlock tlJ) → W.cell? ⟨bl56, r55, none⟩ = some (.string (S (tlJ.getD r55 [])))) := Lib.hid (fun W q => str_cell q r55 (show r55 < tlJ.length from hr55))
          generalize tlJ.getD r55 [] = st57 at *
          refine wpAnyH_stronger (S' := fun W => (W.cell? ⟨X.wb, 0, none⟩ = some (.pointer (some ⟨X.g, 0, none⟩))) ∧ W.cell? ⟨bl56, r55, none⟩ = some (.string (S st57))) (fun _ q => q.1) ?_
          have hlS57 : (S st57).size ≤ 10 := by rw [S_size]; omega
          refine wpAnyH_take (i := 12) (oi := { dst := some 48, op := Op.load 9 (Operand.tmp 47), type := 9, pos := "source.go:138", after := #[{ on := 11, ground := Ground.data }], guard := none }) (v := ?_) rfl (by kernel_rfl) (by kernel_rfl) (by kernel_rfl) (fun _ _ _ h => h) (Or.inl ⟨by rfl, ?_⟩) (⟨HG56.out.c0, hl57⟩) ?_
          rotate_left 1
          · intro w hSw
            (try dsimp only at hSw); have hSa := hSw.1; have hSb := hSw.2; clear hSw
            go_simp
            first
              | done
              | with_reducible rfl
              | rw [if_neg (by omega)]
          try simp only [Act.put, List.setIfInBounds_toArray, List.set_cons_zero, List.set_cons_succ]
          refine wpAnyH_take (i := 13) (oi := { dst := some 49, op := Op.binOp BinOp.add 9 (Operand.tmp 40) (Operand.tmp 48) 9, type := 9, pos := "source.go:138", after := #[{ on := 4, ground := Ground.data }, { on := 12, ground := Ground.data }], guard := none }) (v := ?_) rfl (by kernel_rfl) (by kernel_rfl) (by kernel_rfl) (fun _ _ _ h => h) (Or.inl ⟨by rfl, ?_⟩) (⟨HG56.out.c0, hl57⟩) ?_
          rotate_left 1
          · intro w hSw
            (try dsimp only at hSw); have hSa := hSw.1; have hSb := hSw.2; clear hSw
            go_simp
            first
              | done
              | with_reducible rfl
              | rw [if_neg (by omega)]
          try simp only [Act.put, List.setIfInBounds_toArray, List.set_cons_zero, List.set_cons_succ]
          refine wpAnyH_ready (rs := [17]) (by kernel_rfl) (by simp) ?_
          refine AllReadyH.cons (o := { dst := some 53, op := Op.call { callee := Callee.value (Operand.func 17), args := #[Operand.tmp 50, Operand.const (Value.int IntKind.i64 1), Operand.tmp 52], argTypes := #[45, 3, 3] }, type := 9, pos := "source.go:138", after := #[{ on := 14, ground := Ground.data }, { on := 16, ground := Ground.data }, { on := 10, ground := Ground.chain }], guard := none }) rfl (fun K hK => ?_) (AllReadyH.nil)
          go_simp
          go_at_call 17
          refine (HE.out _ _ _ _ _ _ HG56.out HN.out (by omega)).mono ?_
          rintro e w58 ⟨s58, f58, rfl, hs58, hf58, hg58, hG58, hK58⟩
          have HG58 := Lib.hid hG58
          have HK58 := Lib.hid (HK56.out.trans (hK58.mono fun _ q => .inl q))
          have HB58 := Lib.hid ((hK58.block _ (.inr rfl)).trans HB56.out)
          have hl58 := hlc57.out _ HB58.out
          clear hG58 hK58
          try dsimp only
          have hb58 : s58.size ≤ 500 := by omega
          refine hK.out _ _ (⟨HG58.out.c0, hl58⟩) (fun _ => ?_)
          clear hK K
          try simp only [Act.put, List.setIfInBounds_toArray, List.set_cons_zero, List.set_cons_succ]
          refine wpAnyH_take (i := 18) (oi := { dst := some 54, op := Op.binOp BinOp.add 9 (Operand.tmp 49) (Operand.tmp 53) 9, type := 9, pos := "source.go:138", after := #[{ on := 13, ground := Ground.data }, { on := 17, ground := Ground.data }], guard := none }) (v := ?_) rfl (by kernel_rfl) (by kernel_rfl) (by kernel_rfl) (fun _ _ _ h => h) (Or.inl ⟨by rfl, ?_⟩) (⟨HG58.out.c0, hl58⟩) ?_
          rotate_left 1
          · intro w hSw
            (try dsimp only at hSw); have hSa := hSw.1; have hSb := hSw.2; clear hSw
            go_simp
            first
              | done
              | with_reducible rfl
              | rw [if_neg (by omega)]
          try simp only [Act.put, List.setIfInBounds_toArray, List.set_cons_zero, List.set_cons_succ]
          refine wpAnyH_take (i := 19) (oi := { dst := some 55, op := Op.binOp BinOp.add 9 (Operand.tmp 54) (Operand.const (Value.string { data := #[41] })) 9, type := 9, pos := "source.go:138", after := #[{ on := 18, ground := Ground.data }], guard := none }) (v := ?_) rfl (by kernel_rfl) (by kernel_rfl) (by kernel_rfl) (fun _ _ _ h => h) (Or.inl ⟨by rfl, ?_⟩) (⟨HG58.out.c0, hl58⟩) ?_
          rotate_left 1
          · intro w hSw
            (try dsimp only at hSw); have hSa := hSw.1; have hSb := hSw.2; clear hSw
            go_simp
            first
              | done
              | with_reducible rfl
              | rw [if_neg (by omega)]
          try simp only [Act.put, List.setIfInBounds_toArray, List.set_cons_zero, List.set_cons_succ]
          refine wpAnyH_take (i := 20) (oi := { dst := some 4, op := Op.assign (Operand.tmp 55), type := 9, pos := "source.go:138", after := #[{ on := 19, ground := Ground.data }, { on := 17, ground := Ground.chain }, { on := 0, ground := Ground.phase }, { on := 1, ground := Ground.phase }, { on := 2, ground := Ground.phase }, { on := 3, ground := Ground.phase }, { on := 4, ground := Ground.phase }, { on := 5, ground := Ground.phase }, { on := 6, ground := Ground.phase }, { on := 7, ground := Ground.phase }, { on := 8, ground := Ground.phase }, { on := 9, ground := Ground.phase }, { on := 10, ground := Ground.phase }, { on := 11, ground := Ground.phase }, { on := 12, ground := Ground.phase }, { on := 13, ground := Ground.phase }, { on := 14, ground := Ground.phase }, { on := 15, ground := Ground.phase }, { on := 16, ground := Ground.phase }, { on := 17, ground := Ground.phase }, { on := 18, ground := Ground.phase }, { on := 19, ground := Ground.phase }], guard := none }) (v := ?_) rfl (by kernel_rfl) (by kernel_rfl) (by kernel_rfl) (fun _ _ _ h => h) (Or.inl ⟨by rfl, ?_⟩) (⟨HG58.out.c0, hl58⟩) ?_
          rotate_left 1
          · intro w hSw
            (try dsimp only at hSw); have hSa := hSw.1; have hSb := hSw.2; clear hSw
            go_simp
            first
              | done
              | with_reducible rfl
              | rw [if_neg (by omega)]
          try simp only [Act.put, List.setIfInBounds_toArray, List.set_cons_zero, List.set_cons_succ]
          refine wpAnyH_done (by kernel_rfl) ?_ _
          refine NoPanic.normal ?_
          go_wp2_with fail
          go_ret
          exact ⟨_, f58, rfl, by (try simp [ByteArray.size_append, size_lit]); omega, by omega, by omega, (HG58.out.back hgb56), HK58.out⟩
        · go_simp
          go_at_call 17
          refine (HE.out _ _ _ _ _ _ HG55.out HN.out (by omega)).mono ?_
          rintro e w59 ⟨s59, f59, rfl, hs59, hf59, hg59, hG59, hK59⟩
          have HG59 := Lib.hid hG59
          have HK59 := Lib.hid (HK55.out.trans hK59)
          clear hG59 hK59
          try dsimp only
          have hb59 : s59.size ≤ 500 := by omega
          refine hK.out _ _ (HG59.out.c0) (fun _ => ?_)
          clear hK K
          try simp only [Act.put, List.setIfInBounds_toArray, List.set_cons_zero, List.set_cons_succ]
          refine wpAnyH_ready (rs := [5]) (by kernel_rfl) (by simp) ?_
          refine AllReadyH.cons (o := { dst := some 41, op := Op.buildSlice 44 2 #[(0, Operand.const (Value.string { data := #[32, 97, 110, 100, 32] })), (1, Operand.const (Value.string { data := #[32, 111, 114, 32] }))], type := 44, pos := "source.go:138", after := #[], guard := none }) rfl (fun K hK => ?_) (AllReadyH.nil)
          go_simp
          try dsimp only
          have HG60 := Lib.hid (HG59.out.more (strBlock tlJ))
          have HK60 := Lib.hid (HK59.out.alloc HL.out (strBlock tlJ))
          have HB60 : Hid ((w59.alloc (strBlock tlJ)).heap[w59.heap.size]? = some (strBlock tlJ)) := heap_alloc_new w59 _
          have hgb60 := HG59.out.gl
          refine hK.out _ (w59.alloc (strBlock tlJ)) (HG60.out.c0) (fun _ => ?_)
          clear hK K
          generalize hwe60 : w59.alloc (strBlock tlJ) = wl60 at *
          clear hwe60
          generalize hbe60 : w59.heap.size = bl60 at *
          clear hbe60
          try simp only [Act.put, List.setIfInBounds_toArray, List.set_cons_zero, List.set_cons_succ]
          refine wpAnyH_take (i := 11) (oi := { dst := some 47, op := Op.indexAddr 44 (Operand.tmp 41) (Operand.tmp 46), type := 0, pos := "source.go:138", after := #[{ on := 5, ground := Ground.data }, { on := 10, ground := Ground.data }], guard := none }) (v := ?_) rfl (by kernel_rfl) (by kernel_rfl) (by kernel_rfl) (fun _ _ _ h => h) (Or.inl ⟨by rfl, ?_⟩) (HG60.out.c0) ?_
          rotate_left 1
          · intro w hSw
            try dsimp only at hSw
            go_simp
            first
              | done
              | with_reducible rfl
              | rw [if_neg (by omega)]
          try simp only [Act.put, List.setIfInBounds_toArray, List.set_cons_zero, List.set_cons_succ]
          have hl61 : wl60.cell? ⟨bl60, r55, none⟩ = some (.string (S (tlJ.getD r55 []))) := str_cell HB60.out r55 (show r55 < tlJ.length from hr55)
          have hle61 := tlJ_le r55 hr55
          have hlc61 : Hid (∀ W : World, W.heap[bl60]? = some (strBlock tlJ) → W.cell? ⟨bl60, r55, none⟩ = some (.string (S (tlJ.getD r55 [])))) := Lib.hid (fun W q => str_cell q r55 (show r55 < tlJ.length from hr55))
          generalize tlJ.getD r55 [] = st61 at *
          refine wpAnyH_stronger (S' := fun W => (W.cell? ⟨X.wb, 0, none⟩ = some (.pointer (some ⟨X.g, 0, none⟩))) ∧ W.cell? ⟨bl60, r55, none⟩ = some (.string (S st61))) (fun _ q => q.1) ?_
          have hlS61 : (S st61).size ≤ 10 := by rw [S_size]; omega
          refine wpAnyH_take (i := 12) (oi := { dst := some 48, op := Op.load 9 (Operand.tmp 47), type := 9, pos := "source.go:138", after := #[{ on := 11, ground := Ground.data }], guard := none }) (v := ?_) rfl (by kernel_rfl) (by kernel_rfl) (by kernel_rfl) (fun _ _ _ h => h) (Or.inl ⟨by rfl, ?_⟩) (⟨HG60.out.c0, hl61⟩) ?_
          rotate_left 1
          · intro w hSw
            (try dsimp only at hSw); have hSa := hSw.1; have hSb := hSw.2; clear hSw
            go_simp
            first
              | done
              | with_reducible rfl
              | rw [if_neg (by omega)]
          try simp only [Act.put, List.setIfInBounds_toArray, List.set_cons_zero, List.set_cons_succ]
          refine wpAnyH_take (i := 13) (oi := { dst := some 49, op := Op.binOp BinOp.add 9 (Operand.tmp 40) (Operand.tmp 48) 9, type := 9, pos := "source.go:138", after := #[{ on := 4, ground := Ground.data }, { on := 12, ground := Ground.data }], guard := none }) (v := ?_) rfl (by kernel_rfl) (by kernel_rfl) (by kernel_rfl) (fun _ _ _ h => h) (Or.inl ⟨by rfl, ?_⟩) (⟨HG60.out.c0, hl61⟩) ?_
          rotate_left 1
          · intro w hSw
            (try dsimp only at hSw); have hSa := hSw.1; have hSb := hSw.2; clear hSw
            go_simp
            first
              | done
              | with_reducible rfl
              | rw [if_neg (by omega)]
          try simp only [Act.put, List.setIfInBounds_toArray, List.set_cons_zero, List.set_cons_succ]
          refine wpAnyH_take (i := 18) (oi := { dst := some 54, op := Op.binOp BinOp.add 9 (Operand.tmp 49) (Operand.tmp 53) 9, type := 9, pos := "source.go:138", after := #[{ on := 13, ground := Ground.data }, { on := 17, ground := Ground.data }], guard := none }) (v := ?_) rfl (by kernel_rfl) (by kernel_rfl) (by kernel_rfl) (fun _ _ _ h => h) (Or.inl ⟨by rfl, ?_⟩) (⟨HG60.out.c0, hl61⟩) ?_
          rotate_left 1
          · intro w hSw
            (try dsimp only at hSw); have hSa := hSw.1; have hSb := hSw.2; clear hSw
            go_simp
            first
              | done
              | with_reducible rfl
              | rw [if_neg (by omega)]
          try simp only [Act.put, List.setIfInBounds_toArray, List.set_cons_zero, List.set_cons_succ]
          refine wpAnyH_take (i := 19) (oi := { dst := some 55, op := Op.binOp BinOp.add 9 (Operand.tmp 54) (Operand.const (Value.string { data := #[41] })) 9, type := 9, pos := "source.go:138", after := #[{ on := 18, ground := Ground.data }], guard := none }) (v := ?_) rfl (by kernel_rfl) (by kernel_rfl) (by kernel_rfl) (fun _ _ _ h => h) (Or.inl ⟨by rfl, ?_⟩) (⟨HG60.out.c0, hl61⟩) ?_
          rotate_left 1
          · intro w hSw
            (try dsimp only at hSw); have hSa := hSw.1; have hSb := hSw.2; clear hSw
            go_simp
            first
              | done
              | with_reducible rfl
              | rw [if_neg (by omega)]
          try simp only [Act.put, List.setIfInBounds_toArray, List.set_cons_zero, List.set_cons_succ]
          refine wpAnyH_take (i := 20) (oi := { dst := some 4, op := Op.assign (Operand.tmp 55), type := 9, pos := "source.go:138", after := #[{ on := 19, ground := Ground.data }, { on := 17, ground := Ground.chain }, { on := 0, ground := Ground.phase }, { on := 1, ground := Ground.phase }, { on := 2, ground := Ground.phase }, { on := 3, ground := Ground.phase }, { on := 4, ground := Ground.phase }, { on := 5, ground := Ground.phase }, { on := 6, ground := Ground.phase }, { on := 7, ground := Ground.phase }, { on := 8, ground := Ground.phase }, { on := 9, ground := Ground.phase }, { on := 10, ground := Ground.phase }, { on := 11, ground := Ground.phase }, { on := 12, ground := Ground.phase }, { on := 13, ground := Ground.phase }, { on := 14, ground := Ground.phase }, { on := 15, ground := Ground.phase }, { on := 16, ground := Ground.phase }, { on := 17, ground := Ground.phase }, { on := 18, ground := Ground.phase }, { on := 19, ground := Ground.phase }], guard := none }) (v := ?_) rfl (by kernel_rfl) (by kernel_rfl) (by kernel_rfl) (fun _ _ _ h => h) (Or.inl ⟨by rfl, ?_⟩) (⟨HG60.out.c0, hl61⟩) ?_
          rotate_left 1
          · intro w hSw
            (try dsimp only at hSw); have hSa := hSw.1; have hSb := hSw.2; clear hSw
            go_simp
            first
              | done
              | with_reducible rfl
              | rw [if_neg (by omega)]
          try simp only [Act.put, List.setIfInBounds_toArray, List.set_cons_zero, List.set_cons_succ]
          refine wpAnyH_done (by kernel_rfl) ?_ _
          refine NoPanic.normal ?_
          go_wp2_with fail
          go_ret
          exact ⟨_, f59, rfl, by (try simp [ByteArray.size_append, size_lit]); omega, by omega, by omega, (HG60.out.back hgb60), HK60.out⟩
    · go_simp
      try dsimp only
      have HG62 := Lib.hid (HGd.out.more (strBlock tlJ))
      have HK62 := Lib.hid (HKd.out.alloc HL.out (strBlock tlJ))
      have HB62 : Hid ((wd.alloc (strBlock tlJ)).heap[wd.heap.size]? = some (strBlock tlJ)) := heap_alloc_new wd _
      have hgb62 := HGd.out.gl
      refine hK.out _ (wd.alloc (strBlock tlJ)) (HG62.out.c0) (fun _ => ?_)
      clear hK K
      generalize hwe62 : wd.alloc (strBlock tlJ) = wl62 at *
      clear hwe62
      generalize hbe62 : wd.heap.size = bl62 at *
      clear hbe62
      try simp only [Act.put, List.setIfInBounds_toArray, List.set_cons_zero, List.set_cons_succ]
      refine wpAnyH_ready (rs := [3]) (by kernel_rfl) (by simp) ?_
      refine AllReadyH.cons (o := { dst := some 39, op := Op.call { callee := Callee.value (Operand.func 17), args := #[Operand.tmp 36, Operand.const (Value.int IntKind.i64 1), Operand.tmp 38], argTypes := #[45, 3, 3] }, type := 9, pos := "source.go:138", after := #[{ on := 0, ground := Ground.data }, { on := 2, ground := Ground.data }], guard := none }) rfl (fun K hK => ?_) (AllReadyH.nil)
      go_simp
      go_at_call 17
      refine (HE.out _ _ _ _ _ _ HG62.out HN.out (by omega)).mono ?_
      rintro e w63 ⟨s63, f63, rfl, hs63, hf63, hg63, hG63, hK63⟩
      have HG63 := Lib.hid hG63
      have HK63 := Lib.hid (HK62.out.trans (hK63.mono fun _ q => .inl q))
      have HB63 := Lib.hid ((hK63.block _ (.inr rfl)).trans HB62.out)
      clear hG63 hK63
      try dsimp only
      have hb63 : s63.size ≤ 500 := by omega
      refine hK.out _ _ (HG63.out.c0) (fun _ => ?_)
      clear hK K
      try simp only [Act.put, List.setIfInBounds_toArray, List.set_cons_zero, List.set_cons_succ]
      refine wpAnyH_take (i := 4) (oi := { dst := some 40, op := Op.binOp BinOp.add 9 (Operand.const (Value.string { data := #[40] })) (Operand.tmp 39) 9, type := 9, pos := "source.go:138", after := #[{ on := 3, ground := Ground.data }], guard := none }) (v := ?_) rfl (by kernel_rfl) (by kernel_rfl) (by kernel_rfl) (fun _ _ _ h => h) (Or.inl ⟨by rfl, ?_⟩) (HG63.out.c0) ?_
      rotate_left 1
      · intro w hSw
        try dsimp only at hSw
        go_simp
        first
          | done
          | with_reducible rfl
          | rw [if_neg (by omega)]
      try simp only [Act.put, List.setIfInBounds_toArray, List.set_cons_zero, List.set_cons_succ]
      refine wpAnyH_ready (rs := [10]) (by kernel_rfl) (by simp) ?_
      refine AllReadyH.cons (o := { dst := some 46, op := Op.call { callee := Callee.value (Operand.func 14), args := #[Operand.tmp 45, Operand.const (Value.int IntKind.i64 2)], argTypes := #[40, 3] }, type := 3, pos := "source.go:138", after := #[{ on := 9, ground := Ground.data }, { on := 3, ground := Ground.chain }], guard := none }) rfl (fun K hK => ?_) (AllReadyH.nil)
      go_simp
      go_at_call 14
      refine (gnext 2 2 rfl (by decide) (by decide) HG63.out HN.out).mono ?_
      rintro e w64 ⟨r64, hr64, rfl, hG64, hK64⟩
      have HG64 := Lib.hid hG64
      have HK64 := Lib.hid (HK63.out.trans (hK64.mono fun _ q => .inl q))
      have HB64 := Lib.hid ((hK64.block _ (.inr rfl)).trans HB63.out)
      clear hG64 hK64
      try dsimp only
      have hx64 : (0 : Int) ≤ (r64 : Int) := by omega
      have hy64 : (r64 : Int) < 2 := by omega
      have hd64 := digS_size r64
      refine hK.out _ _ (HG64.out.c0) (fun _ => ?_)
      clear hK K
      try simp only [Act.put, List.setIfInBounds_toArray, List.set_cons_zero, List.set_cons_succ]
      refine wpAnyH_take (i := 11) (oi := { dst := some 47, op := Op.indexAddr 44 (Operand.tmp 41) (Operand.tmp 46), type := 0, pos := "source.go:138", after := #[{ on := 5, ground := Ground.data }, { on := 10, ground := Ground.data }], guard := none }) (v := ?_) rfl (by kernel_rfl) (by kernel_rfl) (by kernel_rfl) (fun _ _ _ h => h) (Or.inl ⟨by rfl, ?_⟩) (HG64.out.c0) ?_
      rotate_left 1
      · intro w hSw
        try dsimp only at hSw
        go_simp
        first
          | done
          | with_reducible rfl
          | rw [if_neg (by omega)]
      try simp only [Act.put, List.setIfInBounds_toArray, List.set_cons_zero, List.set_cons_succ]
      have hl65 : w64.cell? ⟨bl62, r64, none⟩ = some (.string (S (tlJ.getD r64 []))) := str_cell HB64.out r64 (show r64 < tlJ.length from hr64)
      have hle65 := tlJ_le r64 hr64
      have hlc65 : Hid (∀ W : World, W.heap[bl62]? = some (strBlock tlJ) → W.cell? ⟨bl62, r64, none⟩ = some (.string (S (tlJ.getD r64 [])))) := Lib.hid (fun W q => str_cell q r64 (show r64 < tlJ.length from hr64))
      generalize tlJ.getD r64 [] = st65 at *
      refine wpAnyH_stronger (S' := fun W => (W.cell? ⟨X.wb, 0, none⟩ = some (.pointer (some ⟨X.g, 0, none⟩))) ∧ W.cell? ⟨bl62, r64, none⟩ = some (.string (S st65))) (fun _ q => q.1) ?_
      have hlS65 : (S st65).size ≤ 10 := by rw [S_size]; omega
      refine wpAnyH_take (i := 12) (oi := { dst := some 48, op := Op.load 9 (Operand.tmp 47), type := 9, pos := "source.go:138", after := #[{ on := 11, ground := Ground.data }], guard := none }) (v := ?_) rfl (by kernel_rfl) (by kernel_rfl) (by kernel_rfl) (fun _ _ _ h => h) (Or.inl ⟨by rfl, ?_⟩) (⟨HG64.out.c0, hl65⟩) ?_
      rotate_left 1
      · intro w hSw
        (try dsimp only at hSw); have hSa := hSw.1; have hSb := hSw.2; clear hSw
        go_simp
        first
          | done
          | with_reducible rfl
          | rw [if_neg (by omega)]
      try simp only [Act.put, List.setIfInBounds_toArray, List.set_cons_zero, List.set_cons_succ]
      refine wpAnyH_take (i := 13) (oi := { dst := some 49, op := Op.binOp BinOp.add 9 (Operand.tmp 40) (Operand.tmp 48) 9, type := 9, pos := "source.go:138", after := #[{ on := 4, ground := Ground.data }, { on := 12, ground := Ground.data }], guard := none }) (v := ?_) rfl (by kernel_rfl) (by kernel_rfl) (by kernel_rfl) (fun _ _ _ h => h) (Or.inl ⟨by rfl, ?_⟩) (⟨HG64.out.c0, hl65⟩) ?_
      rotate_left 1
      · intro w hSw
        (try dsimp only at hSw); have hSa := hSw.1; have hSb := hSw.2; clear hSw
        go_simp
        first
          | done
          | with_reducible rfl
          | rw [if_neg (by omega)]
      try simp only [Act.put, List.setIfInBounds_toArray, List.set_cons_zero, List.set_cons_succ]
      refine wpAnyH_ready (rs := [17]) (by kernel_rfl) (by simp) ?_
      refine AllReadyH.cons (o := { dst := some 53, op := Op.call { callee := Callee.value (Operand.func 17), args := #[Operand.tmp 50, Operand.const (Value.int IntKind.i64 1), Operand.tmp 52], argTypes := #[45, 3, 3] }, type := 9, pos := "source.go:138", after := #[{ on := 14, ground := Ground.data }, { on := 16, ground := Ground.data }, { on := 10, ground := Ground.chain }], guard := none }) rfl (fun K hK => ?_) (AllReadyH.nil)
      go_simp
      go_at_call 17
      refine (HE.out _ _ _ _ _ _ HG64.out HN.out (by omega)).mono ?_
      rintro e w66 ⟨s66, f66, rfl, hs66, hf66, hg66, hG66, hK66⟩
      have HG66 := Lib.hid hG66
      have HK66 := Lib.hid (HK64.out.trans (hK66.mono fun _ q => .inl q))
      have HB66 := Lib.hid ((hK66.block _ (.inr rfl)).trans HB64.out)
      have hl66 := hlc65.out _ HB66.out
      clear hG66 hK66
      try dsimp only
      have hb66 : s66.size ≤ 500 := by omega
      refine hK.out _ _ (⟨HG66.out.c0, hl66⟩) (fun _ => ?_)
      clear hK K
      try simp only [Act.put, List.setIfInBounds_toArray, List.set_cons_zero, List.set_cons_succ]
      refine wpAnyH_take (i := 18) (oi := { dst := some 54, op := Op.binOp BinOp.add 9 (Operand.tmp 49) (Operand.tmp 53) 9, type := 9, pos := "source.go:138", after := #[{ on := 13, ground := Ground.data }, { on := 17, ground := Ground.data }], guard := none }) (v := ?_) rfl (by kernel_rfl) (by kernel_rfl) (by kernel_rfl) (fun _ _ _ h => h) (Or.inl ⟨by rfl, ?_⟩) (⟨HG66.out.c0, hl66⟩) ?_
      rotate_left 1
      · intro w hSw
        (try dsimp only at hSw); have hSa := hSw.1; have hSb := hSw.2; clear hSw
        go_simp
        first
          | done
          | with_reducible rfl
          | rw [if_neg (by omega)]
      try simp only [Act.put, List.setIfInBounds_toArray, List.set_cons_zero, List.set_cons_succ]
      refine wpAnyH_take (i := 19) (oi := { dst := some 55, op := Op.binOp BinOp.add 9 (Operand.tmp 54) (Operand.const (Value.string { data := #[41] })) 9, type := 9, pos := "source.go:138", after := #[{ on := 18, ground := Ground.data }], guard := none }) (v := ?_) rfl (by kernel_rfl) (by kernel_rfl) (by kernel_rfl) (fun _ _ _ h => h) (Or.inl ⟨by rfl, ?_⟩) (⟨HG66.out.c0, hl66⟩) ?_
      rotate_left 1
      · intro w hSw
        (try dsimp only at hSw); have hSa := hSw.1; have hSb := hSw.2; clear hSw
        go_simp
        first
          | done
          | with_reducible rfl
          | rw [if_neg (by omega)]
      try simp only [Act.put, List.setIfInBounds_toArray, List.set_cons_zero, List.set_cons_succ]
      refine wpAnyH_take (i := 20) (oi := { dst := some 4, op := Op.assign (Operand.tmp 55), type := 9, pos := "source.go:138", after := #[{ on := 19, ground := Ground.data }, { on := 17, ground := Ground.chain }, { on := 0, ground := Ground.phase }, { on := 1, ground := Ground.phase }, { on := 2, ground := Ground.phase }, { on := 3, ground := Ground.phase }, { on := 4, ground := Ground.phase }, { on := 5, ground := Ground.phase }, { on := 6, ground := Ground.phase }, { on := 7, ground := Ground.phase }, { on := 8, ground := Ground.phase }, { on := 9, ground := Ground.phase }, { on := 10, ground := Ground.phase }, { on := 11, ground := Ground.phase }, { on := 12, ground := Ground.phase }, { on := 13, ground := Ground.phase }, { on := 14, ground := Ground.phase }, { on := 15, ground := Ground.phase }, { on := 16, ground := Ground.phase }, { on := 17, ground := Ground.phase }, { on := 18, ground := Ground.phase }, { on := 19, ground := Ground.phase }], guard := none }) (v := ?_) rfl (by kernel_rfl) (by kernel_rfl) (by kernel_rfl) (fun _ _ _ h => h) (Or.inl ⟨by rfl, ?_⟩) (⟨HG66.out.c0, hl66⟩) ?_
      rotate_left 1
      · intro w hSw
        (try dsimp only at hSw); have hSa := hSw.1; have hSb := hSw.2; clear hSw
        go_simp
        first
          | done
          | with_reducible rfl
          | rw [if_neg (by omega)]
      try simp only [Act.put, List.setIfInBounds_toArray, List.set_cons_zero, List.set_cons_succ]
      refine wpAnyH_done (by kernel_rfl) ?_ _
      refine NoPanic.normal ?_
      go_wp2_with fail
      go_ret
      exact ⟨_, f66, rfl, by (try simp [ByteArray.size_append, size_lit]); omega, by omega, by omega, (HG66.out.back hgb62), HK66.out⟩
  · go_wp2_with fail
    refine (HE.out _ _ _ _ _ _ HG1.out HN.out (by omega)).mono ?_
    rintro e w10 ⟨s10, f10, rfl, hs10, hf10, hg10, hG10, hK10⟩
    have hb10 : s10.size ≤ 500 := by omega
    have HG10 := Lib.hid hG10
    have HK10 := Lib.hid (HK1.out.trans hK10)
    clear hG10 hK10
    have c10 := HG10.out.c0
    go_wp2_with fail
    refine (HE.out _ _ _ _ _ _ HG10.out HN.out (by omega)).mono ?_
    rintro e w11 ⟨s11, f11, rfl, hs11, hf11, hg11, hG11, hK11⟩
    have hb11 : s11.size ≤ 500 := by omega
    have HG11 := Lib.hid hG11
    have HK11 := Lib.hid (HK10.out.trans hK11)
    clear hG11 hK11
    have c11 := HG11.out.c0
    go_wp2_with fail
    go_ret
    exact ⟨_, f11, rfl, by (try simp [ByteArray.size_append, size_lit]); omega, by omega, by omega, HG11.out, HK11.out⟩
  · go_wp2_with fail
    refine (HE.out _ _ _ _ _ _ HG1.out HN.out (by omega)).mono ?_
    rintro e w10 ⟨s10, f10, rfl, hs10, hf10, hg10, hG10, hK10⟩
    have hb10 : s10.size ≤ 500 := by omega
    have HG10 := Lib.hid hG10
    have HK10 := Lib.hid (HK1.out.trans hK10)
    clear hG10 hK10
    have c10 := HG10.out.c0
    go_wp2_with fail
    go_ret
    exact ⟨_, f10, rfl, by (try simp [ByteArray.size_append, size_lit]); omega, by omega, by omega, HG10.out, HK10.out⟩
  · go_wp2_with fail
    refine (gnext 6 6 rfl (by decide) (by decide) HG1.out HN.out).mono ?_
    rintro e w10 ⟨r10, hr10, rfl, hG10, hK10⟩
    have HG10 := Lib.hid hG10
    have HK10 := Lib.hid (HK1.out.trans hK10)
    clear hG10 hK10
    have c10 := HG10.out.c0
    have hd10 := digS_size r10
    go_wp2_with fail
    refine (HE.out _ _ _ _ _ _ HG10.out HN.out (by omega)).mono ?_
    rintro e w11 ⟨s11, f11, rfl, hs11, hf11, hg11, hG11, hK11⟩
    have hb11 : s11.size ≤ 500 := by omega
    have HG11 := Lib.hid hG11
    have HK11 := Lib.hid (HK10.out.trans hK11)
    clear hG11 hK11
    have c11 := HG11.out.c0
    go_wp2_with fail
    refine (HE.out _ _ _ _ _ _ HG11.out HN.out (by omega)).mono ?_
    rintro e w12 ⟨s12, f12, rfl, hs12, hf12, hg12, hG12, hK12⟩
    have hb12 : s12.size ≤ 500 := by omega
    have HG12 := Lib.hid hG12
    have HK12 := Lib.hid (HK11.out.trans hK12)
    clear hG12 hK12
    have c12 := HG12.out.c0
    go_wp2_with fail
    go_ret
    exact ⟨_, f12, rfl, by (try simp [ByteArray.size_append, size_lit]); omega, by omega, by omega, HG12.out, HK12.out⟩
  · go_wp2_with fail
    refine (HE.out _ _ _ _ _ _ HG1.out HN.out (by omega)).mono ?_
    rintro e w10 ⟨s10, f10, rfl, hs10, hf10, hg10, hG10, hK10⟩
    have hb10 : s10.size ≤ 500 := by omega
    have HG10 := Lib.hid hG10
    have HK10 := Lib.hid (HK1.out.trans hK10)
    clear hG10 hK10
    have c10 := HG10.out.c0
    go_wp2_with fail
    go_ret
    exact ⟨_, f10, rfl, by (try simp [ByteArray.size_append, size_lit]); omega, by omega, by omega, HG10.out, HK10.out⟩

end Go.Proofs.YtkjjagmpnnnimaaGreatDoor
