/- The writer of sources: sets. Conditions: expr's contract one level down and at depth 0; at most 1000 names. The writer of sources: applications of a lambda. Conditions: expr's contract one level down; at most 1000 names. -/
import Derived.Test.YtkjjagmpnnnimaaGreatDoorQ13
namespace Go.Proofs.YtkjjagmpnnnimaaGreatDoor
open Go.RowKit M

set_option maxRecDepth 100000 in
set_option maxHeartbeats 12800000 in
theorem gset {dep dep' : Int} {L D : Nat} (hE : ECon dep' L D) (hd : IntKind.i64.wrap (dep - 1) = dep') (hL : L ≤ 300) (hE0 : ECon 0 L D) {w : World} {Pr : Nat → Prop} {X : GC} {k fr : Nat} (h : GSt w Pr X k fr) (hn : X.n ≤ maxLen) (hf : fr + (1 + 3 * D) ≤ 1000) :
    Calls Tryz.prog 43 #[.pointer (some ⟨X.wb, 0, none⟩), .int .i64 dep] w (GPost w Pr X k fr (17 + 3 * L) (1 + 3 * D)) := by
  have k0 := h.c0
  have hkf := h.kf
  have HS := Lib.hid h
  have HN := Lib.hid hn
  have HE := Lib.hid hE
  have HL := Lib.hid h.lt
  have HK0 : Hid (Keep Pr w w) := Keep.refl Pr w
  clear h hn hE
  go_enter Tryz.func43, Tryz.ntmps43
  go_wp2_with fail
  refine (gnext 5 5 rfl (by decide) (by decide) HS.out HN.out).mono ?_
  rintro e w1 ⟨r1, hr1, rfl, hG1, hK1⟩
  have HG1 := Lib.hid hG1
  have HK1 := Lib.hid (HK0.out.trans hK1)
  clear hG1 hK1
  have c1 := HG1.out.c0
  have hd1 := digS_size r1
  have hc : r1 = 0 ∨ r1 = 1 ∨ r1 = 2 ∨ r1 = 3 ∨ r1 = 4 := by omega
  rcases hc with rfl | rfl | rfl | rfl | rfl
  · go_wp2_with fail
    refine (HE.out _ _ _ _ _ _ HG1.out HN.out (by omega)).mono ?_
    rintro e w10 ⟨s10, f10, rfl, hs10, hf10, hg10, hG10, hK10⟩
    have hb10 : s10.size ≤ 500 := by omega
    have HG10 := Lib.hid hG10
    have HK10 := Lib.hid (HK1.out.trans hK10)
    clear hG10 hK10
    have c10 := HG10.out.c0
    go_wp2_with fail
    refine (HE.out _ _ _ _ _ _ HG10.out HN.out (by omega)).mono ?_
    rintro e w11 ⟨s11, f11, rfl, hs11, hf11, hg11, hG11, hK11⟩
    have hb11 : s11.size ≤ 500 := by omega
    have HG11 := Lib.hid hG11
    have HK11 := Lib.hid (HK10.out.trans hK11)
    clear hG11 hK11
    have c11 := HG11.out.c0
    go_wp2_with fail
    go_ret
    exact ⟨_, f11, rfl, by (try simp [ByteArray.size_append, size_lit]); omega, by omega, by omega, HG11.out, HK11.out⟩
  · go_wp2_with fail
    have HGd := Lib.hid HG1.out.drew
    have HKd := Lib.hid HK1.out.drew
    refine wp_region_noPanic ?_
    refine wp_region_held_drew (S := fun W => W.cell? ⟨X.wb, 0, none⟩ = some (.pointer (some ⟨X.g, 0, none⟩))) (by kernel_rfl) (HGd.out.c0) (fun _ => ?_)
    generalize w1.drew = wd at *
    try simp only [Act.put, List.setIfInBounds_toArray, List.set_cons_zero, List.set_cons_succ]
    refine wpAnyH_take (i := 1) (oi := { dst := some 31, op := Op.move (Operand.tmp 0), type := 45, pos := "source.go:180", after := #[], guard := none }) (v := ?_) rfl (by kernel_rfl) (by kernel_rfl) (by kernel_rfl) (fun _ _ _ h => h) (Or.inl ⟨by rfl, ?_⟩) (HGd.out.c0) ?_
    rotate_left 1
    · intro w hSw
      try dsimp only at hSw
      go_simp
      first
        | done
        | with_reducible rfl
        | rw [if_neg (by omega)]
    try simp only [Act.put, List.setIfInBounds_toArray, List.set_cons_zero, List.set_cons_succ]
    refine wpAnyH_take (i := 2) (oi := { dst := some 32, op := Op.nilCheck (Operand.tmp 31), type := 0, pos := "source.go:180", after := #[{ on := 1, ground := Ground.data }], guard := none }) (v := ?_) rfl (by kernel_rfl) (by kernel_rfl) (by kernel_rfl) (fun _ _ _ h => h) (Or.inl ⟨by rfl, ?_⟩) (HGd.out.c0) ?_
    rotate_left 1
    · intro w hSw
      try dsimp only at hSw
      go_simp
      first
        | done
        | with_reducible rfl
        | rw [if_neg (by omega)]
    try simp only [Act.put, List.setIfInBounds_toArray, List.set_cons_zero, List.set_cons_succ]
    refine wpAnyH_take (i := 3) (oi := { dst := some 33, op := Op.fieldAddr 47 (Operand.tmp 32) 0, type := 0, pos := "source.go:180", after := #[{ on := 2, ground := Ground.data }], guard := none }) (v := ?_) rfl (by kernel_rfl) (by kernel_rfl) (by kernel_rfl) (fun _ _ _ h => h) (Or.inl ⟨by rfl, ?_⟩) (HGd.out.c0) ?_
    rotate_left 1
    · intro w hSw
      try dsimp only at hSw
      go_simp
      first
        | done
        | with_reducible rfl
        | rw [if_neg (by omega)]
    try simp only [Act.put, List.setIfInBounds_toArray, List.set_cons_zero, List.set_cons_succ]
    refine wpAnyH_take (i := 4) (oi := { dst := some 34, op := Op.load 40 (Operand.tmp 33), type := 40, pos := "source.go:180", after := #[{ on := 3, ground := Ground.data }], guard := none }) (v := ?_) rfl (by kernel_rfl) (by kernel_rfl) (by kernel_rfl) (fun _ _ _ h => h) (Or.inl ⟨by rfl, ?_⟩) (HGd.out.c0) ?_
    rotate_left 1
    · intro w hSw
      try dsimp only at hSw
      go_simp
      first
        | done
        | with_reducible rfl
        | rw [if_neg (by omega)]
    try simp only [Act.put, List.setIfInBounds_toArray, List.set_cons_zero, List.set_cons_succ]
    refine wpAnyH_take (i := 9) (oi := { dst := some 39, op := Op.move (Operand.tmp 0), type := 45, pos := "source.go:180", after := #[], guard := none }) (v := ?_) rfl (by kernel_rfl) (by kernel_rfl) (by kernel_rfl) (fun _ _ _ h => h) (Or.inl ⟨by rfl, ?_⟩) (HGd.out.c0) ?_
    rotate_left 1
    · intro w hSw
      try dsimp only at hSw
      go_simp
      first
        | done
        | with_reducible rfl
        | rw [if_neg (by omega)]
    try simp only [Act.put, List.setIfInBounds_toArray, List.set_cons_zero, List.set_cons_succ]
    refine wpAnyH_take (i := 10) (oi := { dst := some 40, op := Op.move (Operand.tmp 1), type := 3, pos := "source.go:180", after := #[], guard := none }) (v := ?_) rfl (by kernel_rfl) (by kernel_rfl) (by kernel_rfl) (fun _ _ _ h => h) (Or.inl ⟨by rfl, ?_⟩) (HGd.out.c0) ?_
    rotate_left 1
    · intro w hSw
      try dsimp only at hSw
      go_simp
      first
        | done
        | with_reducible rfl
        | rw [if_neg (by omega)]
    try simp only [Act.put, List.setIfInBounds_toArray, List.set_cons_zero, List.set_cons_succ]
    refine wpAnyH_take (i := 11) (oi := { dst := some 41, op := Op.binOp BinOp.sub 3 (Operand.tmp 40) (Operand.const (Value.int IntKind.i64 1)) 3, type := 3, pos := "source.go:180", after := #[{ on := 10, ground := Ground.data }], guard := none }) (v := ?_) rfl (by kernel_rfl) (by kernel_rfl) (by kernel_rfl) (fun _ _ _ h => h) (Or.inl ⟨by rfl, ?_⟩) (HGd.out.c0) ?_
    rotate_left 1
    · intro w hSw
      try dsimp only at hSw
      go_simp
      first
        | done
        | with_reducible rfl
        | rw [if_neg (by omega)]
    try simp only [Act.put, List.setIfInBounds_toArray, List.set_cons_zero, List.set_cons_succ]
    refine wpAnyH_take (i := 15) (oi := { dst := some 45, op := Op.move (Operand.tmp 0), type := 45, pos := "source.go:180", after := #[], guard := none }) (v := ?_) rfl (by kernel_rfl) (by kernel_rfl) (by kernel_rfl) (fun _ _ _ h => h) (Or.inl ⟨by rfl, ?_⟩) (HGd.out.c0) ?_
    rotate_left 1
    · intro w hSw
      try dsimp only at hSw
      go_simp
      first
        | done
        | with_reducible rfl
        | rw [if_neg (by omega)]
    try simp only [Act.put, List.setIfInBounds_toArray, List.set_cons_zero, List.set_cons_succ]
    refine wpAnyH_take (i := 16) (oi := { dst := some 46, op := Op.move (Operand.tmp 1), type := 3, pos := "source.go:180", after := #[], guard := none }) (v := ?_) rfl (by kernel_rfl) (by kernel_rfl) (by kernel_rfl) (fun _ _ _ h => h) (Or.inl ⟨by rfl, ?_⟩) (HGd.out.c0) ?_
    rotate_left 1
    · intro w hSw
      try dsimp only at hSw
      go_simp
      first
        | done
        | with_reducible rfl
        | rw [if_neg (by omega)]
    try simp only [Act.put, List.setIfInBounds_toArray, List.set_cons_zero, List.set_cons_succ]
    refine wpAnyH_take (i := 17) (oi := { dst := some 47, op := Op.binOp BinOp.sub 3 (Operand.tmp 46) (Operand.const (Value.int IntKind.i64 1)) 3, type := 3, pos := "source.go:180", after := #[{ on := 16, ground := Ground.data }], guard := none }) (v := ?_) rfl (by kernel_rfl) (by kernel_rfl) (by kernel_rfl) (fun _ _ _ h => h) (Or.inl ⟨by rfl, ?_⟩) (HGd.out.c0) ?_
    rotate_left 1
    · intro w hSw
      try dsimp only at hSw
      go_simp
      first
        | done
        | with_reducible rfl
        | rw [if_neg (by omega)]
    try simp only [Act.put, List.setIfInBounds_toArray, List.set_cons_zero, List.set_cons_succ]
    refine wpAnyH_ready (rs := [0, 5]) (by kernel_rfl) (by simp) ?_
    refine AllReadyH.cons (o := { dst := some 30, op := Op.buildSlice 44 3 #[(0, Operand.const (Value.string { data := #[117, 110, 105, 111, 110] })), (1, Operand.const (Value.string { data := #[105, 110, 116, 101, 114] })), (2, Operand.const (Value.string { data := #[100, 105, 102, 102] }))], type := 44, pos := "source.go:180", after := #[], guard := none }) rfl (fun K hK => ?_) (AllReadyH.cons (o := { dst := some 35, op := Op.call { callee := Callee.value (Operand.func 14), args := #[Operand.tmp 34, Operand.const (Value.int IntKind.i64 3)], argTypes := #[40, 3] }, type := 3, pos := "source.go:180", after := #[{ on := 4, ground := Ground.data }], guard := none }) rfl (fun K hK => ?_) (AllReadyH.nil))
    · go_simp
      try dsimp only
      have HG50 := Lib.hid (HGd.out.more (strBlock tlK))
      have HK50 := Lib.hid (HKd.out.alloc HL.out (strBlock tlK))
      have HB50 : Hid ((wd.alloc (strBlock tlK)).heap[wd.heap.size]? = some (strBlock tlK)) := heap_alloc_new wd _
      have hgb50 := HGd.out.gl
      refine hK.out _ (wd.alloc (strBlock tlK)) (HG50.out.c0) (fun _ => ?_)
      clear hK K
      generalize hwe50 : wd.alloc (strBlock tlK) = wl50 at *
      clear hwe50
      generalize hbe50 : wd.heap.size = bl50 at *
      clear hbe50
      try simp only [Act.put, List.setIfInBounds_toArray, List.set_cons_zero, List.set_cons_succ]
      refine wpAnyH_ready (rs := [5]) (by kernel_rfl) (by simp) ?_
      refine AllReadyH.cons (o := { dst := some 35, op := Op.call { callee := Callee.value (Operand.func 14), args := #[Operand.tmp 34, Operand.const (Value.int IntKind.i64 3)], argTypes := #[40, 3] }, type := 3, pos := "source.go:180", after := #[{ on := 4, ground := Ground.data }], guard := none }) rfl (fun K hK => ?_) (AllReadyH.nil)
      go_simp
      go_at_call 14
      refine (gnext 3 3 rfl (by decide) (by decide) HG50.out HN.out).mono ?_
      rintro e w51 ⟨r51, hr51, rfl, hG51, hK51⟩
      have HG51 := Lib.hid hG51
      have HK51 := Lib.hid (HK50.out.trans (hK51.mono fun _ q => .inl q))
      have HB51 := Lib.hid ((hK51.block _ (.inr rfl)).trans HB50.out)
      clear hG51 hK51
      try dsimp only
      have hx51 : (0 : Int) ≤ (r51 : Int) := by omega
      have hy51 : (r51 : Int) < 3 := by omega
      have hd51 := digS_size r51
      refine hK.out _ _ (HG51.out.c0) (fun _ => ?_)
      clear hK K
      try simp only [Act.put, List.setIfInBounds_toArray, List.set_cons_zero, List.set_cons_succ]
      refine wpAnyH_take (i := 6) (oi := { dst := some 36, op := Op.indexAddr 44 (Operand.tmp 30) (Operand.tmp 35), type := 0, pos := "source.go:180", after := #[{ on := 0, ground := Ground.data }, { on := 5, ground := Ground.data }], guard := none }) (v := ?_) rfl (by kernel_rfl) (by kernel_rfl) (by kernel_rfl) (fun _ _ _ h => h) (Or.inl ⟨by rfl, ?_⟩) (HG51.out.c0) ?_
      rotate_left 1
      · intro w hSw
        try dsimp only at hSw
        go_simp
        first
          | done
          | with_reducible rfl
          | rw [if_neg (by omega)]
      try simp only [Act.put, List.setIfInBounds_toArray, List.set_cons_zero, List.set_cons_succ]
      have hl52 : w51.cell? ⟨bl50, r51, none⟩ = some (.string (S (tlK.getD r51 []))) := str_cell HB51.out r51 (show r51 < tlK.length from hr51)
      have hle52 := tlK_le r51 hr51
      have hlc52 : Hid (∀ W : World, W.heap[bl50]? = some (strBlock tlK) → W.cell? ⟨bl50, r51, none⟩ = some (.string (S (tlK.getD r51 [])))) := Lib.hid (fun W q => str_cell q r51 (show r51 < tlK.length from hr51))
      generalize tlK.getD r51 [] = st52 at *
      refine wpAnyH_stronger (S' := fun W => (W.cell? ⟨X.wb, 0, none⟩ = some (.pointer (some ⟨X.g, 0, none⟩))) ∧ W.cell? ⟨bl50, r51, none⟩ = some (.string (S st52))) (fun _ q => q.1) ?_
      have hlS52 : (S st52).size ≤ 10 := by rw [S_size]; omega
      refine wpAnyH_take (i := 7) (oi := { dst := some 37, op := Op.load 9 (Operand.tmp 36), type := 9, pos := "source.go:180", after := #[{ on := 6, ground := Ground.data }], guard := none }) (v := ?_) rfl (by kernel_rfl) (by kernel_rfl) (by kernel_rfl) (fun _ _ _ h => h) (Or.inl ⟨by rfl, ?_⟩) (⟨HG51.out.c0, hl52⟩) ?_
      rotate_left 1
      · intro w hSw
        (try dsimp only at hSw); have hSa := hSw.1; have hSb := hSw.2; clear hSw
        go_simp
        first
          | done
          | with_reducible rfl
          | rw [if_neg (by omega)]
      try simp only [Act.put, List.setIfInBounds_toArray, List.set_cons_zero, List.set_cons_succ]
      refine wpAnyH_take (i := 8) (oi := { dst := some 38, op := Op.binOp BinOp.add 9 (Operand.tmp 37) (Operand.const (Value.string { data := #[40] })) 9, type := 9, pos := "source.go:180", after := #[{ on := 7, ground := Ground.data }], guard := none }) (v := ?_) rfl (by kernel_rfl) (by kernel_rfl) (by kernel_rfl) (fun _ _ _ h => h) (Or.inl ⟨by rfl, ?_⟩) (⟨HG51.out.c0, hl52⟩) ?_
      rotate_left 1
      · intro w hSw
        (try dsimp only at hSw); have hSa := hSw.1; have hSb := hSw.2; clear hSw
        go_simp
        first
          | done
          | with_reducible rfl
          | rw [if_neg (by omega)]
      try simp only [Act.put, List.setIfInBounds_toArray, List.set_cons_zero, List.set_cons_succ]
      refine wpAnyH_ready (rs := [12]) (by kernel_rfl) (by simp) ?_
      refine AllReadyH.cons (o := { dst := some 42, op := Op.call { callee := Callee.value (Operand.func 17), args := #[Operand.tmp 39, Operand.const (Value.int IntKind.i64 3), Operand.tmp 41], argTypes := #[45, 3, 3] }, type := 9, pos := "source.go:180", after := #[{ on := 9, ground := Ground.data }, { on := 11, ground := Ground.data }, { on := 5, ground := Ground.chain }], guard := none }) rfl (fun K hK => ?_) (AllReadyH.nil)
      go_simp
      go_at_call 17
      refine (HE.out _ _ _ _ _ _ HG51.out HN.out (by omega)).mono ?_
      rintro e w53 ⟨s53, f53, rfl, hs53, hf53, hg53, hG53, hK53⟩
      have HG53 := Lib.hid hG53
      have HK53 := Lib.hid (HK51.out.trans (hK53.mono fun _ q => .inl q))
      have HB53 := Lib.hid ((hK53.block _ (.inr rfl)).trans HB51.out)
      have hl53 := hlc52.out _ HB53.out
      clear hG53 hK53
      try dsimp only
      have hb53 : s53.size ≤ 500 := by omega
      refine hK.out _ _ (⟨HG53.out.c0, hl53⟩) (fun _ => ?_)
      clear hK K
      try simp only [Act.put, List.setIfInBounds_toArray, List.set_cons_zero, List.set_cons_succ]
      refine wpAnyH_take (i := 13) (oi := { dst := some 43, op := Op.binOp BinOp.add 9 (Operand.tmp 38) (Operand.tmp 42) 9, type := 9, pos := "source.go:180", after := #[{ on := 8, ground := Ground.data }, { on := 12, ground := Ground.data }], guard := none }) (v := ?_) rfl (by kernel_rfl) (by kernel_rfl) (by kernel_rfl) (fun _ _ _ h => h) (Or.inl ⟨by rfl, ?_⟩) (⟨HG53.out.c0, hl53⟩) ?_
      rotate_left 1
      · intro w hSw
        (try dsimp only at hSw); have hSa := hSw.1; have hSb := hSw.2; clear hSw
        go_simp
        first
          | done
          | with_reducible rfl
          | rw [if_neg (by omega)]
      try simp only [Act.put, List.setIfInBounds_toArray, List.set_cons_zero, List.set_cons_succ]
      refine wpAnyH_take (i := 14) (oi := { dst := some 44, op := Op.binOp BinOp.add 9 (Operand.tmp 43) (Operand.const (Value.string { data := #[44, 32] })) 9, type := 9, pos := "source.go:180", after := #[{ on := 13, ground := Ground.data }], guard := none }) (v := ?_) rfl (by kernel_rfl) (by kernel_rfl) (by kernel_rfl) (fun _ _ _ h => h) (Or.inl ⟨by rfl, ?_⟩) (⟨HG53.out.c0, hl53⟩) ?_
      rotate_left 1
      · intro w hSw
        (try dsimp only at hSw); have hSa := hSw.1; have hSb := hSw.2; clear hSw
        go_simp
        first
          | done
          | with_reducible rfl
          | rw [if_neg (by omega)]
      try simp only [Act.put, List.setIfInBounds_toArray, List.set_cons_zero, List.set_cons_succ]
      refine wpAnyH_ready (rs := [18]) (by kernel_rfl) (by simp) ?_
      refine AllReadyH.cons (o := { dst := some 48, op := Op.call { callee := Callee.value (Operand.func 17), args := #[Operand.tmp 45, Operand.const (Value.int IntKind.i64 3), Operand.tmp 47], argTypes := #[45, 3, 3] }, type := 9, pos := "source.go:180", after := #[{ on := 15, ground := Ground.data }, { on := 17, ground := Ground.data }, { on := 12, ground := Ground.chain }], guard := none }) rfl (fun K hK => ?_) (AllReadyH.nil)
      go_simp
      go_at_call 17
      refine (HE.out _ _ _ _ _ _ HG53.out HN.out (by omega)).mono ?_
      rintro e w54 ⟨s54, f54, rfl, hs54, hf54, hg54, hG54, hK54⟩
      have HG54 := Lib.hid hG54
      have HK54 := Lib.hid (HK53.out.trans (hK54.mono fun _ q => .inl q))
      have HB54 := Lib.hid ((hK54.block _ (.inr rfl)).trans HB53.out)
      have hl54 := hlc52.out _ HB54.out
      clear hG54 hK54
      try dsimp only
      have hb54 : s54.size ≤ 500 := by omega
      refine hK.out _ _ (⟨HG54.out.c0, hl54⟩) (fun _ => ?_)
      clear hK K
      try simp only [Act.put, List.setIfInBounds_toArray, List.set_cons_zero, List.set_cons_succ]
      refine wpAnyH_take (i := 19) (oi := { dst := some 49, op := Op.binOp BinOp.add 9 (Operand.tmp 44) (Operand.tmp 48) 9, type := 9, pos := "source.go:180", after := #[{ on := 14, ground := Ground.data }, { on := 18, ground := Ground.data }], guard := none }) (v := ?_) rfl (by kernel_rfl) (by kernel_rfl) (by kernel_rfl) (fun _ _ _ h => h) (Or.inl ⟨by rfl, ?_⟩) (⟨HG54.out.c0, hl54⟩) ?_
      rotate_left 1
      · intro w hSw
        (try dsimp only at hSw); have hSa := hSw.1; have hSb := hSw.2; clear hSw
        go_simp
        first
          | done
          | with_reducible rfl
          | rw [if_neg (by omega)]
      try simp only [Act.put, List.setIfInBounds_toArray, List.set_cons_zero, List.set_cons_succ]
      refine wpAnyH_take (i := 20) (oi := { dst := some 50, op := Op.binOp BinOp.add 9 (Operand.tmp 49) (Operand.const (Value.string { data := #[41] })) 9, type := 9, pos := "source.go:180", after := #[{ on := 19, ground := Ground.data }], guard := none }) (v := ?_) rfl (by kernel_rfl) (by kernel_rfl) (by kernel_rfl) (fun _ _ _ h => h) (Or.inl ⟨by rfl, ?_⟩) (⟨HG54.out.c0, hl54⟩) ?_
      rotate_left 1
      · intro w hSw
        (try dsimp only at hSw); have hSa := hSw.1; have hSb := hSw.2; clear hSw
        go_simp
        first
          | done
          | with_reducible rfl
          | rw [if_neg (by omega)]
      try simp only [Act.put, List.setIfInBounds_toArray, List.set_cons_zero, List.set_cons_succ]
      refine wpAnyH_take (i := 21) (oi := { dst := some 4, op := Op.assign (Operand.tmp 50), type := 9, pos := "source.go:180", after := #[{ on := 20, ground := Ground.data }, { on := 18, ground := Ground.chain }, { on := 0, ground := Ground.phase }, { on := 1, ground := Ground.phase }, { on := 2, ground := Ground.phase }, { on := 3, ground := Ground.phase }, { on := 4, ground := Ground.phase }, { on := 5, ground := Ground.phase }, { on := 6, ground := Ground.phase }, { on := 7, ground := Ground.phase }, { on := 8, ground := Ground.phase }, { on := 9, ground := Ground.phase }, { on := 10, ground := Ground.phase }, { on := 11, ground := Ground.phase }, { on := 12, ground := Ground.phase }, { on := 13, ground := Ground.phase }, { on := 14, ground := Ground.phase }, { on := 15, ground := Ground.phase }, { on := 16, ground := Ground.phase }, { on := 17, ground := Ground.phase }, { on := 18, ground := Ground.phase }, { on := 19, ground := Ground.phase }, { on := 20, ground := Ground.phase }], guard := none }) (v := ?_) rfl (by kernel_rfl) (by kernel_rfl) (by kernel_rfl) (fun _ _ _ h => h) (Or.inl ⟨by rfl, ?_⟩) (⟨HG54.out.c0, hl54⟩) ?_
      rotate_left 1
      · intro w hSw
        (try dsimp only at hSw); have hSa := hSw.1; have hSb := hSw.2; clear hSw
        go_simp
        first
          | done
          | with_reducible rfl
          | rw [if_neg (by omega)]
      try simp only [Act.put, List.setIfInBounds_toArray, List.set_cons_zero, List.set_cons_succ]
      refine wpAnyH_done (by kernel_rfl) ?_ _
      refine NoPanic.normal ?_
      go_wp2_with fail
      go_ret
      exact ⟨_, f54, rfl, by (try simp [ByteArray.size_append, size_lit]); omega, by omega, by omega, (HG54.out.back hgb50), HK54.out⟩
    · go_simp
      go_at_call 14
      refine (gnext 3 3 rfl (by decide) (by decide) HGd.out HN.out).mono ?_
      rintro e w55 ⟨r55, hr55, rfl, hG55, hK55⟩
      have HG55 := Lib.hid hG55
      have HK55 := Lib.hid (HKd.out.trans hK55)
      clear hG55 hK55
      try dsimp only
      have hx55 : (0 : Int) ≤ (r55 : Int) := by omega
      have hy55 : (r55 : Int) < 3 := by omega
      have hd55 := digS_size r55
      refine hK.out _ _ (HG55.out.c0) (fun _ => ?_)
      clear hK K
      try simp only [Act.put, List.setIfInBounds_toArray, List.set_cons_zero, List.set_cons_succ]
      refine wpAnyH_ready (rs := [0, 12]) (by kernel_rfl) (by simp) ?_
      refine AllReadyH.cons (o := { dst := some 30, op := Op.buildSlice 44 3 #[(0, Operand.const (Value.string { data := #[117, 110, 105, 111, 110] })), (1, Operand.const (Value.string { data := #[105, 110, 116, 101, 114] })), (2, Operand.const (Value.string { data := #[100, 105, 102, 102] }))], type := 44, pos := "source.go:180", after := #[], guard := none }) rfl (fun K hK => ?_) (AllReadyH.cons (o := { dst := some 42, op := Op.call { callee := Callee.value (Operand.func 17), args := #[Operand.tmp 39, Operand.const (Value.int IntKind.i64 3), Operand.tmp 41], argTypes := #[45, 3, 3] }, type := 9, pos := "source.go:180", after := #[{ on := 9, ground := Ground.data }, { on := 11, ground := Ground.data }, { on := 5, ground := Ground.chain }], guard := none }) rfl (fun K hK => ?_) (AllReadyH.nil))
      · go_simp
        try dsimp only
        have HG56 := Lib.hid (HG55.out.more (strBlock tlK))
        have HK56 := Lib.hid (HK55.out.alloc HL.out (strBlock tlK))
        have HB56 : Hid ((w55.alloc (strBlock tlK)).heap[w55.heap.size]? = some (strBlock tlK)) := heap_alloc_new w55 _
        have hgb56 := HG55.out.gl
        refine hK.out _ (w55.alloc (strBlock tlK)) (HG56.out.c0) (fun _ => ?_)
        clear hK K
        generalize hwe56 : w55.alloc (strBlock tlK) = wl56 at *
        clear hwe56
        generalize hbe56 : w55.heap.size = bl56 at *
        clear hbe56
        try simp only [Act.put, List.setIfInBounds_toArray, List.set_cons_zero, List.set_cons_succ]
        refine wpAnyH_take (i := 6) (oi := { dst := some 36, op := Op.indexAddr 44 (Operand.tmp 30) (Operand.tmp 35), type := 0, pos := "source.go:180", after := #[{ on := 0, ground := Ground.data }, { on := 5, ground := Ground.data }], guard := none }) (v := ?_) rfl (by kernel_rfl) (by kernel_rfl) (by kernel_rfl) (fun _ _ _ h => h) (Or.inl ⟨by rfl, ?_⟩) (HG56.out.c0) ?_
        rotate_left 1
        · intro w hSw
          try dsimp only at hSw
          go_simp
          first
            | done
            | with_reducible rfl
            | rw [if_neg (by omega)]
        try simp only [Act.put, List.setIfInBounds_toArray, List.set_cons_zero, List.set_cons_succ]
        have hl57 : wl56.cell? ⟨bl56, r55, none⟩ = some (.string (S (tlK.getD r55 []))) := str_cell HB56.out r55 (show r55 < tlK.length from hr55)
        have hle57 := tlK_le r55 hr55
        have hlc57 : Hid (∀ W : World, W.heap[bl56]? = some (strBlock tlK) → W.cell? ⟨bl56, r55, none⟩ = some (.string (S (tlK.getD r55 [])))) := Lib.hid (fun W q => str_cell q r55 (show r55 < tlK.length from hr55))
        generalize tlK.getD r55 [] = st57 at *
        refine wpAnyH_stronger (S' := fun W => (W.cell? ⟨X.wb, 0, none⟩ = some (.pointer (some ⟨X.g, 0, none⟩))) ∧ W.cell? ⟨bl56, r55, none⟩ = some (.string (S st57))) (fun _ q => q.1) ?_
        have hlS57 : (S st57).size ≤ 10 := by rw [S_size]; omega
        refine wpAnyH_take (i := 7) (oi := { dst := some 37, op := Op.load 9 (Operand.tmp 36), type := 9, pos := "source.go:180", after := #[{ on := 6, ground := Ground.data }], guard := none }) (v := ?_) rfl (by kernel_rfl) (by kernel_rfl) (by kernel_rfl) (fun _ _ _ h => h) (Or.inl ⟨by rfl, ?_⟩) (⟨HG56.out.c0, hl57⟩) ?_
        rotate_left 1
        · intro w hSw
          (try dsimp only at hSw); have hSa := hSw.1; have hSb := hSw.2; clear hSw
          go_simp
          first
            | done
            | with_reducible rfl
            | rw [if_neg (by omega)]
        try simp only [Act.put, List.setIfInBounds_toArray, List.set_cons_zero, List.set_cons_succ]
        refine wpAnyH_take (i := 8) (oi := { dst := some 38, op := Op.binOp BinOp.add 9 (Operand.tmp 37) (Operand.const (Value.string { data := #[40] })) 9, type := 9, pos := "source.go:180", after := #[{ on := 7, ground := Ground.data }], guard := none }) (v := ?_) rfl (by kernel_rfl) (by kernel_rfl) (by kernel_rfl) (fun _ _ _ h => h) (Or.inl ⟨by rfl, ?_⟩) (⟨HG56.out.c0, hl57⟩) ?_
        rotate_left 1
        · intro w hSw
          (try dsimp only at hSw); have hSa := hSw.1; have hSb := hSw.2; clear hSw
          go_simp
          first
            | done
            | with_reducible rfl
            | rw [if_neg (by omega)]
        try simp only [Act.put, List.setIfInBounds_toArray, List.set_cons_zero, List.set_cons_succ]
        refine wpAnyH_ready (rs := [12]) (by kernel_rfl) (by simp) ?_
        refine AllReadyH.cons (o := { dst := some 42, op := Op.call { callee := Callee.value (Operand.func 17), args := #[Operand.tmp 39, Operand.const (Value.int IntKind.i64 3), Operand.tmp 41], argTypes := #[45, 3, 3] }, type := 9, pos := "source.go:180", after := #[{ on := 9, ground := Ground.data }, { on := 11, ground := Ground.data }, { on := 5, ground := Ground.chain }], guard := none }) rfl (fun K hK => ?_) (AllReadyH.nil)
        go_simp
        go_at_call 17
        refine (HE.out _ _ _ _ _ _ HG56.out HN.out (by omega)).mono ?_
        rintro e w58 ⟨s58, f58, rfl, hs58, hf58, hg58, hG58, hK58⟩
        have HG58 := Lib.hid hG58
        have HK58 := Lib.hid (HK56.out.trans (hK58.mono fun _ q => .inl q))
        have HB58 := Lib.hid ((hK58.block _ (.inr rfl)).trans HB56.out)
        have hl58 := hlc57.out _ HB58.out
        clear hG58 hK58
        try dsimp only
        have hb58 : s58.size ≤ 500 := by omega
        refine hK.out _ _ (⟨HG58.out.c0, hl58⟩) (fun _ => ?_)
        clear hK K
        try simp only [Act.put, List.setIfInBounds_toArray, List.set_cons_zero, List.set_cons_succ]
        refine wpAnyH_take (i := 13) (oi := { dst := some 43, op := Op.binOp BinOp.add 9 (Operand.tmp 38) (Operand.tmp 42) 9, type := 9, pos := "source.go:180", after := #[{ on := 8, ground := Ground.data }, { on := 12, ground := Ground.data }], guard := none }) (v := ?_) rfl (by kernel_rfl) (by kernel_rfl) (by kernel_rfl) (fun _ _ _ h => h) (Or.inl ⟨by rfl, ?_⟩) (⟨HG58.out.c0, hl58⟩) ?_
        rotate_left 1
        · intro w hSw
          (try dsimp only at hSw); have hSa := hSw.1; have hSb := hSw.2; clear hSw
          go_simp
          first
            | done
            | with_reducible rfl
            | rw [if_neg (by omega)]
        try simp only [Act.put, List.setIfInBounds_toArray, List.set_cons_zero, List.set_cons_succ]
        refine wpAnyH_take (i := 14) (oi := { dst := some 44, op := Op.binOp BinOp.add 9 (Operand.tmp 43) (Operand.const (Value.string { data := #[44, 32] })) 9, type := 9, pos := "source.go:180", after := #[{ on := 13, ground := Ground.data }], guard := none }) (v := ?_) rfl (by kernel_rfl) (by kernel_rfl) (by kernel_rfl) (fun _ _ _ h => h) (Or.inl ⟨by rfl, ?_⟩) (⟨HG58.out.c0, hl58⟩) ?_
        rotate_left 1
        · intro w hSw
          (try dsimp only at hSw); have hSa := hSw.1; have hSb := hSw.2; clear hSw
          go_simp
          first
            | done
            | with_reducible rfl
            | rw [if_neg (by omega)]
        try simp only [Act.put, List.setIfInBounds_toArray, List.set_cons_zero, List.set_cons_succ]
        refine wpAnyH_ready (rs := [18]) (by kernel_rfl) (by simp) ?_
        refine AllReadyH.cons (o := { dst := some 48, op := Op.call { callee := Callee.value (Operand.func 17), args := #[Operand.tmp 45, Operand.const (Value.int IntKind.i64 3), Operand.tmp 47], argTypes := #[45, 3, 3] }, type := 9, pos := "source.go:180", after := #[{ on := 15, ground := Ground.data }, { on := 17, ground := Ground.data }, { on := 12, ground := Ground.chain }], guard := none }) rfl (fun K hK => ?_) (AllReadyH.nil)
        go_simp
        go_at_call 17
        refine (HE.out _ _ _ _ _ _ HG58.out HN.out (by omega)).mono ?_
        rintro e w59 ⟨s59, f59, rfl, hs59, hf59, hg59, hG59, hK59⟩
        have HG59 := Lib.hid hG59
        have HK59 := Lib.hid (HK58.out.trans (hK59.mono fun _ q => .inl q))
        have HB59 := Lib.hid ((hK59.block _ (.inr rfl)).trans HB58.out)
        have hl59 := hlc57.out _ HB59.out
        clear hG59 hK59
        try dsimp only
        have hb59 : s59.size ≤ 500 := by omega
        refine hK.out _ _ (⟨HG59.out.c0, hl59⟩) (fun _ => ?_)
        clear hK K
        try simp only [Act.put, List.setIfInBounds_toArray, List.set_cons_zero, List.set_cons_succ]
        refine wpAnyH_take (i := 19) (oi := { dst := some 49, op := Op.binOp BinOp.add 9 (Operand.tmp 44) (Operand.tmp 48) 9, type := 9, pos := "source.go:180", after := #[{ on := 14, ground := Ground.data }, { on := 18, ground := Ground.data }], guard := none }) (v := ?_) rfl (by kernel_rfl) (by kernel_rfl) (by kernel_rfl) (fun _ _ _ h => h) (Or.inl ⟨by rfl, ?_⟩) (⟨HG59.out.c0, hl59⟩) ?_
        rotate_left 1
        · intro w hSw
          (try dsimp only at hSw); have hSa := hSw.1; have hSb := hSw.2; clear hSw
          go_simp
          first
            | done
            | with_reducible rfl
            | rw [if_neg (by omega)]
        try simp only [Act.put, List.setIfInBounds_toArray, List.set_cons_zero, List.set_cons_succ]
        refine wpAnyH_take (i := 20) (oi := { dst := some 50, op := Op.binOp BinOp.add 9 (Operand.tmp 49) (Operand.const (Value.string { data := #[41] })) 9, type := 9, pos := "source.go:180", after := #[{ on := 19, ground := Ground.data }], guard := none }) (v := ?_) rfl (by kernel_rfl) (by kernel_rfl) (by kernel_rfl) (fun _ _ _ h => h) (Or.inl ⟨by rfl, ?_⟩) (⟨HG59.out.c0, hl59⟩) ?_
        rotate_left 1
        · intro w hSw
          (try dsimp only at hSw); have hSa := hSw.1; have hSb := hSw.2; clear hSw
          go_simp
          first
            | done
            | with_reducible rfl
            | rw [if_neg (by omega)]
        try simp only [Act.put, List.setIfInBounds_toArray, List.set_cons_zero, List.set_cons_succ]
        refine wpAnyH_take (i := 21) (oi := { dst := some 4, op := Op.assign (Operand.tmp 50), type := 9, pos := "source.go:180", after := #[{ on := 20, ground := Ground.data }, { on := 18, ground := Ground.chain }, { on := 0, ground := Ground.phase }, { on := 1, ground := Ground.phase }, { on := 2, ground := Ground.phase }, { on := 3, ground := Ground.phase }, { on := 4, ground := Ground.phase }, { on := 5, ground := Ground.phase }, { on := 6, ground := Ground.phase }, { on := 7, ground := Ground.phase }, { on := 8, ground := Ground.phase }, { on := 9, ground := Ground.phase }, { on := 10, ground := Ground.phase }, { on := 11, ground := Ground.phase }, { on := 12, ground := Ground.phase }, { on := 13, ground := Ground.phase }, { on := 14, ground := Ground.phase }, { on := 15, ground := Ground.phase }, { on := 16, ground := Ground.phase }, { on := 17, ground := Ground.phase }, { on := 18, ground := Ground.phase }, { on := 19, ground := Ground.phase }, { on := 20, ground := Ground.phase }], guard := none }) (v := ?_) rfl (by kernel_rfl) (by kernel_rfl) (by kernel_rfl) (fun _ _ _ h => h) (Or.inl ⟨by rfl, ?_⟩) (⟨HG59.out.c0, hl59⟩) ?_
        rotate_left 1
        · intro w hSw
          (try dsimp only at hSw); have hSa := hSw.1; have hSb := hSw.2; clear hSw
          go_simp
          first
            | done
            | with_reducible rfl
            | rw [if_neg (by omega)]
        try simp only [Act.put, List.setIfInBounds_toArray, List.set_cons_zero, List.set_cons_succ]
        refine wpAnyH_done (by kernel_rfl) ?_ _
        refine NoPanic.normal ?_
        go_wp2_with fail
        go_ret
        exact ⟨_, f59, rfl, by (try simp [ByteArray.size_append, size_lit]); omega, by omega, by omega, (HG59.out.back hgb56), HK59.out⟩
      · go_simp
        go_at_call 17
        refine (HE.out _ _ _ _ _ _ HG55.out HN.out (by omega)).mono ?_
        rintro e w60 ⟨s60, f60, rfl, hs60, hf60, hg60, hG60, hK60⟩
        have HG60 := Lib.hid hG60
        have HK60 := Lib.hid (HK55.out.trans hK60)
        clear hG60 hK60
        try dsimp only
        have hb60 : s60.size ≤ 500 := by omega
        refine hK.out _ _ (HG60.out.c0) (fun _ => ?_)
        clear hK K
        try simp only [Act.put, List.setIfInBounds_toArray, List.set_cons_zero, List.set_cons_succ]
        refine wpAnyH_ready (rs := [0, 18]) (by kernel_rfl) (by simp) ?_
        refine AllReadyH.cons (o := { dst := some 30, op := Op.buildSlice 44 3 #[(0, Operand.const (Value.string { data := #[117, 110, 105, 111, 110] })), (1, Operand.const (Value.string { data := #[105, 110, 116, 101, 114] })), (2, Operand.const (Value.string { data := #[100, 105, 102, 102] }))], type := 44, pos := "source.go:180", after := #[], guard := none }) rfl (fun K hK => ?_) (AllReadyH.cons (o := { dst := some 48, op := Op.call { callee := Callee.value (Operand.func 17), args := #[Operand.tmp 45, Operand.const (Value.int IntKind.i64 3), Operand.tmp 47], argTypes := #[45, 3, 3] }, type := 9, pos := "source.go:180", after := #[{ on := 15, ground := Ground.data }, { on := 17, ground := Ground.data }, { on := 12, ground := Ground.chain }], guard := none }) rfl (fun K hK => ?_) (AllReadyH.nil))
        · go_simp
          try dsimp only
          have HG61 := Lib.hid (HG60.out.more (strBlock tlK))
          have HK61 := Lib.hid (HK60.out.alloc HL.out (strBlock tlK))
          have HB61 : Hid ((w60.alloc (strBlock tlK)).heap[w60.heap.size]? = some (strBlock tlK)) := heap_alloc_new w60 _
          have hgb61 := HG60.out.gl
          refine hK.out _ (w60.alloc (strBlock tlK)) (HG61.out.c0) (fun _ => ?_)
          clear hK K
          generalize hwe61 : w60.alloc (strBlock tlK) = wl61 at *
          clear hwe61
          generalize hbe61 : w60.heap.size = bl61 at *
          clear hbe61
          try simp only [Act.put, List.setIfInBounds_toArray, List.set_cons_zero, List.set_cons_succ]
          refine wpAnyH_take (i := 6) (oi := { dst := some 36, op := Op.indexAddr 44 (Operand.tmp 30) (Operand.tmp 35), type := 0, pos := "source.go:180", after := #[{ on := 0, ground := Ground.data }, { on := 5, ground := Ground.data }], guard := none }) (v := ?_) rfl (by kernel_rfl) (by kernel_rfl) (by kernel_rfl) (fun _ _ _ h => h) (Or.inl ⟨by rfl, ?_⟩) (HG61.out.c0) ?_
          rotate_left 1
          · intro w hSw
            try dsimp only at hSw
            go_simp
            first
              | done
              | with_reducible rfl
              | rw [if_neg (by omega)]
          try simp only [Act.put, List.setIfInBounds_toArray, List.set_cons_zero, List.set_cons_succ]
          have hl62 : wl61.cell? ⟨bl61, r55, none⟩ = some (.string (S (tlK.getD r55 []))) := str_cell HB61.out r55 (show r55 < tlK.length from hr55)
          have hle62 := tlK_le r55 hr55
          have hlc62 : Hid (∀ W : World, W.heap[bl61]? = some (strBlock tlK) → W.cell? ⟨bl61, r55, none⟩ = some (.string (S (tlK.getD r55 [])))) := Lib.hid (fun W q => str_cell q r55 (show r55 < tlK.length from hr55))
          generalize tlK.getD r55 [] = st62 at *
          refine wpAnyH_stronger (S' := fun W => (W.cell? ⟨X.wb, 0, none⟩ = some (.pointer (some ⟨X.g, 0, none⟩))) ∧ W.cell? ⟨bl61, r55, none⟩ = some (.string (S st62))) (fun _ q => q.1) ?_
          have hlS62 : (S st62).size ≤ 10 := by rw [S_size]; omega
          refine wpAnyH_take (i := 7) (oi := { dst := some 37, op := Op.load 9 (Operand.tmp 36), type := 9, pos := "source.go:180", after := #[{ on := 6, ground := Ground.data }], guard := none }) (v := ?_) rfl (by kernel_rfl) (by kernel_rfl) (by kernel_rfl) (fun _ _ _ h => h) (Or.inl ⟨by rfl, ?_⟩) (⟨HG61.out.c0, hl62⟩) ?_
          rotate_left 1
          · intro w hSw
            (try dsimp only at hSw); have hSa := hSw.1; have hSb := hSw.2; clear hSw
            go_simp
            first
              | done
              | with_reducible rfl
              | rw [if_neg (by omega)]
          try simp only [Act.put, List.setIfInBounds_toArray, List.set_cons_zero, List.set_cons_succ]
          refine wpAnyH_take (i := 8) (oi := { dst := some 38, op := Op.binOp BinOp.add 9 (Operand.tmp 37) (Operand.const (Value.string { data := #[40] })) 9, type := 9, pos := "source.go:180", after := #[{ on := 7, ground := Ground.data }], guard := none }) (v := ?_) rfl (by kernel_rfl) (by kernel_rfl) (by kernel_rfl) (fun _ _ _ h => h) (Or.inl ⟨by rfl, ?_⟩) (⟨HG61.out.c0, hl62⟩) ?_
          rotate_left 1
          · intro w hSw
            (try dsimp only at hSw); have hSa := hSw.1; have hSb := hSw.2; clear hSw
            go_simp
            first
              | done
              | with_reducible rfl
              | rw [if_neg (by omega)]
          try simp only [Act.put, List.setIfInBounds_toArray, List.set_cons_zero, List.set_cons_succ]
          refine wpAnyH_take (i := 13) (oi := { dst := some 43, op := Op.binOp BinOp.add 9 (Operand.tmp 38) (Operand.tmp 42) 9, type := 9, pos := "source.go:180", after := #[{ on := 8, ground := Ground.data }, { on := 12, ground := Ground.data }], guard := none }) (v := ?_) rfl (by kernel_rfl) (by kernel_rfl) (by kernel_rfl) (fun _ _ _ h => h) (Or.inl ⟨by rfl, ?_⟩) (⟨HG61.out.c0, hl62⟩) ?_
          rotate_left 1
          · intro w hSw
            (try dsimp only at hSw); have hSa := hSw.1; have hSb := hSw.2; clear hSw
            go_simp
            first
              | done
              | with_reducible rfl
              | rw [if_neg (by omega)]
          try simp only [Act.put, List.setIfInBounds_toArray, List.set_cons_zero, List.set_cons_succ]
          refine wpAnyH_take (i := 14) (oi := { dst := some 44, op := Op.binOp BinOp.add 9 (Operand.tmp 43) (Operand.const (Value.string { data := #[44, 32] })) 9, type := 9, pos := "source.go:180", after := #[{ on := 13, ground := Ground.data }], guard := none }) (v := ?_) rfl (by kernel_rfl) (by kernel_rfl) (by kernel_rfl) (fun _ _ _ h => h) (Or.inl ⟨by rfl, ?_⟩) (⟨HG61.out.c0, hl62⟩) ?_
          rotate_left 1
          · intro w hSw
            (try dsimp only at hSw); have hSa := hSw.1; have hSb := hSw.2; clear hSw
            go_simp
            first
              | done
              | with_reducible rfl
              | rw [if_neg (by omega)]
          try simp only [Act.put, List.setIfInBounds_toArray, List.set_cons_zero, List.set_cons_succ]
          refine wpAnyH_ready (rs := [18]) (by kernel_rfl) (by simp) ?_
          refine AllReadyH.cons (o := { dst := some 48, op := Op.call { callee := Callee.value (Operand.func 17), args := #[Operand.tmp 45, Operand.const (Value.int IntKind.i64 3), Operand.tmp 47], argTypes := #[45, 3, 3] }, type := 9, pos := "source.go:180", after := #[{ on := 15, ground := Ground.data }, { on := 17, ground := Ground.data }, { on := 12, ground := Ground.chain }], guard := none }) rfl (fun K hK => ?_) (AllReadyH.nil)
          go_simp
          go_at_call 17
          refine (HE.out _ _ _ _ _ _ HG61.out HN.out (by omega)).mono ?_
          rintro e w63 ⟨s63, f63, rfl, hs63, hf63, hg63, hG63, hK63⟩
          have HG63 := Lib.hid hG63
          have HK63 := Lib.hid (HK61.out.trans (hK63.mono fun _ q => .inl q))
          have HB63 := Lib.hid ((hK63.block _ (.inr rfl)).trans HB61.out)
          have hl63 := hlc62.out _ HB63.out
          clear hG63 hK63
          try dsimp only
          have hb63 : s63.size ≤ 500 := by omega
          refine hK.out _ _ (⟨HG63.out.c0, hl63⟩) (fun _ => ?_)
          clear hK K
          try simp only [Act.put, List.setIfInBounds_toArray, List.set_cons_zero, List.set_cons_succ]
          refine wpAnyH_take (i := 19) (oi := { dst := some 49, op := Op.binOp BinOp.add 9 (Operand.tmp 44) (Operand.tmp 48) 9, type := 9, pos := "source.go:180", after := #[{ on := 14, ground := Ground.data }, { on := 18, ground := Ground.data }], guard := none }) (v := ?_) rfl (by kernel_rfl) (by kernel_rfl) (by kernel_rfl) (fun _ _ _ h => h) (Or.inl ⟨by rfl, ?_⟩) (⟨HG63.out.c0, hl63⟩) ?_
          rotate_left 1
          · intro w hSw
            (try dsimp only at hSw); have hSa := hSw.1; have hSb := hSw.2; clear hSw
            go_simp
            first
              | done
              | with_reducible rfl
              | rw [if_neg (by omega)]
          try simp only [Act.put, List.setIfInBounds_toArray, List.set_cons_zero, List.set_cons_succ]
          refine wpAnyH_take (i := 20) (oi := { dst := some 50, op := Op.binOp BinOp.add 9 (Operand.tmp 49) (Operand.const (Value.string { data := #[41] })) 9, type := 9, pos := "source.go:180", after := #[{ on := 19, ground := Ground.data }], guard := none }) (v := ?_) rfl (by kernel_rfl) (by kernel_rfl) (by kernel_rfl) (fun _ _ _ h => h) (Or.inl ⟨by rfl, ?_⟩) (⟨HG63.out.c0, hl63⟩) ?_
          rotate_left 1
          · intro w hSw
            (try dsimp only at hSw); have hSa := hSw.1; have hSb := hSw.2; clear hSw
            go_simp
            first
              | done
              | with_reducible rfl
              | rw [if_neg (by omega)]
          try simp only [Act.put, List.setIfInBounds_toArray, List.set_cons_zero, List.set_cons_succ]
          refine wpAnyH_take (i := 21) (oi := { dst := some 4, op := Op.assign (Operand.tmp 50), type := 9, pos := "source.go:180", after := #[{ on := 20, ground := Ground.data }, { on := 18, ground := Ground.chain }, { on := 0, ground := Ground.phase }, { on := 1, ground := Ground.phase }, { on := 2, ground := Ground.phase }, { on := 3, ground := Ground.phase }, { on := 4, ground := Ground.phase }, { on := 5, ground := Ground.phase }, { on := 6, ground := Ground.phase }, { on := 7, ground := Ground.phase }, { on := 8, ground := Ground.phase }, { on := 9, ground := Ground.phase }, { on := 10, ground := Ground.phase }, { on := 11, ground := Ground.phase }, { on := 12, ground := Ground.phase }, { on := 13, ground := Ground.phase }, { on := 14, ground := Ground.phase }, { on := 15, ground := Ground.phase }, { on := 16, ground := Ground.phase }, { on := 17, ground := Ground.phase }, { on := 18, ground := Ground.phase }, { on := 19, ground := Ground.phase }, { on := 20, ground := Ground.phase }], guard := none }) (v := ?_) rfl (by kernel_rfl) (by kernel_rfl) (by kernel_rfl) (fun _ _ _ h => h) (Or.inl ⟨by rfl, ?_⟩) (⟨HG63.out.c0, hl63⟩) ?_
          rotate_left 1
          · intro w hSw
            (try dsimp only at hSw); have hSa := hSw.1; have hSb := hSw.2; clear hSw
            go_simp
            first
              | done
              | with_reducible rfl
              | rw [if_neg (by omega)]
          try simp only [Act.put, List.setIfInBounds_toArray, List.set_cons_zero, List.set_cons_succ]
          refine wpAnyH_done (by kernel_rfl) ?_ _
          refine NoPanic.normal ?_
          go_wp2_with fail
          go_ret
          exact ⟨_, f63, rfl, by (try simp [ByteArray.size_append, size_lit]); omega, by omega, by omega, (HG63.out.back hgb61), HK63.out⟩
        · go_simp
          go_at_call 17
          refine (HE.out _ _ _ _ _ _ HG60.out HN.out (by omega)).mono ?_
          rintro e w64 ⟨s64, f64, rfl, hs64, hf64, hg64, hG64, hK64⟩
          have HG64 := Lib.hid hG64
          have HK64 := Lib.hid (HK60.out.trans hK64)
          clear hG64 hK64
          try dsimp only
          have hb64 : s64.size ≤ 500 := by omega
          refine hK.out _ _ (HG64.out.c0) (fun _ => ?_)
          clear hK K
          try simp only [Act.put, List.setIfInBounds_toArray, List.set_cons_zero, List.set_cons_succ]
          refine wpAnyH_ready (rs := [0]) (by kernel_rfl) (by simp) ?_
          refine AllReadyH.cons (o := { dst := some 30, op := Op.buildSlice 44 3 #[(0, Operand.const (Value.string { data := #[117, 110, 105, 111, 110] })), (1, Operand.const (Value.string { data := #[105, 110, 116, 101, 114] })), (2, Operand.const (Value.string { data := #[100, 105, 102, 102] }))], type := 44, pos := "source.go:180", after := #[], guard := none }) rfl (fun K hK => ?_) (AllReadyH.nil)
          go_simp
          try dsimp only
          have HG65 := Lib.hid (HG64.out.more (strBlock tlK))
          have HK65 := Lib.hid (HK64.out.alloc HL.out (strBlock tlK))
          have HB65 : Hid ((w64.alloc (strBlock tlK)).heap[w64.heap.size]? = some (strBlock tlK)) := heap_alloc_new w64 _
          have hgb65 := HG64.out.gl
          refine hK.out _ (w64.alloc (strBlock tlK)) (HG65.out.c0) (fun _ => ?_)
          clear hK K
          generalize hwe65 : w64.alloc (strBlock tlK) = wl65 at *
          clear hwe65
          generalize hbe65 : w64.heap.size = bl65 at *
          clear hbe65
          try simp only [Act.put, List.setIfInBounds_toArray, List.set_cons_zero, List.set_cons_succ]
          refine wpAnyH_take (i := 6) (oi := { dst := some 36, op := Op.indexAddr 44 (Operand.tmp 30) (Operand.tmp 35), type := 0, pos := "source.go:180", after := #[{ on := 0, ground := Ground.data }, { on := 5, ground := Ground.data }], guard := none }) (v := ?_) rfl (by kernel_rfl) (by kernel_rfl) (by kernel_rfl) (fun _ _ _ h => h) (Or.inl ⟨by rfl, ?_⟩) (HG65.out.c0) ?_
          rotate_left 1
          · intro w hSw
            try dsimp only at hSw
            go_simp
            first
              | done
              | with_reducible rfl
              | rw [if_neg (by omega)]
          try simp only [Act.put, List.setIfInBounds_toArray, List.set_cons_zero, List.set_cons_succ]
          have hl66 : wl65.cell? ⟨bl65, r55, none⟩ = some (.string (S (tlK.getD r55 []))) := str_cell HB65.out r55 (show r55 < tlK.length from hr55)
          have hle66 := tlK_le r55 hr55
          have hlc66 : Hid (∀ W : World, W.heap[bl65]? = some (strBlock tlK) → W.cell? ⟨bl65, r55, none⟩ = some (.string (S (tlK.getD r55 [])))) := Lib.hid (fun W q => str_cell q r55 (show r55 < tlK.length from hr55))
          generalize tlK.getD r55 [] = st66 at *
          refine wpAnyH_stronger (S' := fun W => (W.cell? ⟨X.wb, 0, none⟩ = some (.pointer (some ⟨X.g, 0, none⟩))) ∧ W.cell? ⟨bl65, r55, none⟩ = some (.string (S st66))) (fun _ q => q.1) ?_
          have hlS66 : (S st66).size ≤ 10 := by rw [S_size]; omega
          refine wpAnyH_take (i := 7) (oi := { dst := some 37, op := Op.load 9 (Operand.tmp 36), type := 9, pos := "source.go:180", after := #[{ on := 6, ground := Ground.data }], guard := none }) (v := ?_) rfl (by kernel_rfl) (by kernel_rfl) (by kernel_rfl) (fun _ _ _ h => h) (Or.inl ⟨by rfl, ?_⟩) (⟨HG65.out.c0, hl66⟩) ?_
          rotate_left 1
          · intro w hSw
            (try dsimp only at hSw); have hSa := hSw.1; have hSb := hSw.2; clear hSw
            go_simp
            first
              | done
              | with_reducible rfl
              | rw [if_neg (by omega)]
          try simp only [Act.put, List.setIfInBounds_toArray, List.set_cons_zero, List.set_cons_succ]
          refine wpAnyH_take (i := 8) (oi := { dst := some 38, op := Op.binOp BinOp.add 9 (Operand.tmp 37) (Operand.const (Value.string { data := #[40] })) 9, type := 9, pos := "source.go:180", after := #[{ on := 7, ground := Ground.data }], guard := none }) (v := ?_) rfl (by kernel_rfl) (by kernel_rfl) (by kernel_rfl) (fun _ _ _ h => h) (Or.inl ⟨by rfl, ?_⟩) (⟨HG65.out.c0, hl66⟩) ?_
          rotate_left 1
          · intro w hSw
            (try dsimp only at hSw); have hSa := hSw.1; have hSb := hSw.2; clear hSw
            go_simp
            first
              | done
              | with_reducible rfl
              | rw [if_neg (by omega)]
          try simp only [Act.put, List.setIfInBounds_toArray, List.set_cons_zero, List.set_cons_succ]
          refine wpAnyH_take (i := 13) (oi := { dst := some 43, op := Op.binOp BinOp.add 9 (Operand.tmp 38) (Operand.tmp 42) 9, type := 9, pos := "source.go:180", after := #[{ on := 8, ground := Ground.data }, { on := 12, ground := Ground.data }], guard := none }) (v := ?_) rfl (by kernel_rfl) (by kernel_rfl) (by kernel_rfl) (fun _ _ _ h => h) (Or.inl ⟨by rfl, ?_⟩) (⟨HG65.out.c0, hl66⟩) ?_
          rotate_left 1
          · intro w hSw
            (try dsimp only at hSw); have hSa := hSw.1; have hSb := hSw.2; clear hSw
            go_simp
            first
              | done
              | with_reducible rfl
              | rw [if_neg (by omega)]
          try simp only [Act.put, List.setIfInBounds_toArray, List.set_cons_zero, List.set_cons_succ]
          refine wpAnyH_take (i := 14) (oi := { dst := some 44, op := Op.binOp BinOp.add 9 (Operand.tmp 43) (Operand.const (Value.string { data := #[44, 32] })) 9, type := 9, pos := "source.go:180", after := #[{ on := 13, ground := Ground.data }], guard := none }) (v := ?_) rfl (by kernel_rfl) (by kernel_rfl) (by kernel_rfl) (fun _ _ _ h => h) (Or.inl ⟨by rfl, ?_⟩) (⟨HG65.out.c0, hl66⟩) ?_
          rotate_left 1
          · intro w hSw
            (try dsimp only at hSw); have hSa := hSw.1; have hSb := hSw.2; clear hSw
            go_simp
            first
              | done
              | with_reducible rfl
              | rw [if_neg (by omega)]
          try simp only [Act.put, List.setIfInBounds_toArray, List.set_cons_zero, List.set_cons_succ]
          refine wpAnyH_take (i := 19) (oi := { dst := some 49, op := Op.binOp BinOp.add 9 (Operand.tmp 44) (Operand.tmp 48) 9, type := 9, pos := "source.go:180", after := #[{ on := 14, ground := Ground.data }, { on := 18, ground := Ground.data }], guard := none }) (v := ?_) rfl (by kernel_rfl) (by kernel_rfl) (by kernel_rfl) (fun _ _ _ h => h) (Or.inl ⟨by rfl, ?_⟩) (⟨HG65.out.c0, hl66⟩) ?_
          rotate_left 1
          · intro w hSw
            (try dsimp only at hSw); have hSa := hSw.1; have hSb := hSw.2; clear hSw
            go_simp
            first
              | done
              | with_reducible rfl
              | rw [if_neg (by omega)]
          try simp only [Act.put, List.setIfInBounds_toArray, List.set_cons_zero, List.set_cons_succ]
          refine wpAnyH_take (i := 20) (oi := { dst := some 50, op := Op.binOp BinOp.add 9 (Operand.tmp 49) (Operand.const (Value.string { data := #[41] })) 9, type := 9, pos := "source.go:180", after := #[{ on := 19, ground := Ground.data }], guard := none }) (v := ?_) rfl (by kernel_rfl) (by kernel_rfl) (by kernel_rfl) (fun _ _ _ h => h) (Or.inl ⟨by rfl, ?_⟩) (⟨HG65.out.c0, hl66⟩) ?_
          rotate_left 1
          · intro w hSw
            (try dsimp only at hSw); have hSa := hSw.1; have hSb := hSw.2; clear hSw
            go_simp
            first
              | done
              | with_reducible rfl
              | rw [if_neg (by omega)]
          try simp only [Act.put, List.setIfInBounds_toArray, List.set_cons_zero, List.set_cons_succ]
          refine wpAnyH_take (i := 21) (oi := { dst := some 4, op := Op.assign (Operand.tmp 50), type := 9, pos := "source.go:180", after := #[{ on := 20, ground := Ground.data }, { on := 18, ground := Ground.chain }, { on := 0, ground := Ground.phase }, { on := 1, ground := Ground.phase }, { on := 2, ground := Ground.phase }, { on := 3, ground := Ground.phase }, { on := 4, ground := Ground.phase }, { on := 5, ground := Ground.phase }, { on := 6, ground := Ground.phase }, { on := 7, ground := Ground.phase }, { on := 8, ground := Ground.phase }, { on := 9, ground := Ground.phase }, { on := 10, ground := Ground.phase }, { on := 11, ground := Ground.phase }, { on := 12, ground := Ground.phase }, { on := 13, ground := Ground.phase }, { on := 14, ground := Ground.phase }, { on := 15, ground := Ground.phase }, { on := 16, ground := Ground.phase }, { on := 17, ground := Ground.phase }, { on := 18, ground := Ground.phase }, { on := 19, ground := Ground.phase }, { on := 20, ground := Ground.phase }], guard := none }) (v := ?_) rfl (by kernel_rfl) (by kernel_rfl) (by kernel_rfl) (fun _ _ _ h => h) (Or.inl ⟨by rfl, ?_⟩) (⟨HG65.out.c0, hl66⟩) ?_
          rotate_left 1
          · intro w hSw
            (try dsimp only at hSw); have hSa := hSw.1; have hSb := hSw.2; clear hSw
            go_simp
            first
              | done
              | with_reducible rfl
              | rw [if_neg (by omega)]
          try simp only [Act.put, List.setIfInBounds_toArray, List.set_cons_zero, List.set_cons_succ]
          refine wpAnyH_done (by kernel_rfl) ?_ _
          refine NoPanic.normal ?_
          go_wp2_with fail
          go_ret
          exact ⟨_, f64, rfl, by (try simp [ByteArray.size_append, size_lit]); omega, by omega, by omega, (HG65.out.back hgb65), HK65.out⟩
  · go_wp2_with fail
    refine (HE.out _ _ _ _ _ _ HG1.out HN.out (by omega)).mono ?_
    rintro e w10 ⟨s10, f10, rfl, hs10, hf10, hg10, hG10, hK10⟩
    have hb10 : s10.size ≤ 500 := by omega
    have HG10 := Lib.hid hG10
    have HK10 := Lib.hid (HK1.out.trans hK10)
    clear hG10 hK10
    have c10 := HG10.out.c0
    go_wp2_with fail
    refine (gmark HG10.out).mono ?_
    rintro e w11 ⟨rfl, rfl⟩
    go_wp2_with fail
    refine (gbind _ HG10.out (by omega)).mono ?_
    rintro e w12 ⟨s12, rfl, hb12, hG12, hK12⟩
    have HG12 := Lib.hid hG12
    have HK12 := Lib.hid (HK10.out.trans hK12)
    clear hG12 hK12
    have c12 := HG12.out.c0
    go_wp2_with fail
    refine (HE.out _ _ _ _ _ _ HG12.out HN.out (by omega)).mono ?_
    rintro e w13 ⟨s13, f13, rfl, hs13, hf13, hg13, hG13, hK13⟩
    have hb13 : s13.size ≤ 500 := by omega
    have HG13 := Lib.hid hG13
    have HK13 := Lib.hid (HK12.out.trans hK13)
    clear hG13 hK13
    have c13 := HG13.out.c0
    go_wp2_with fail
    refine (HE.out _ _ _ _ _ _ HG13.out HN.out (by omega)).mono ?_
    rintro e w14 ⟨s14, f14, rfl, hs14, hf14, hg14, hG14, hK14⟩
    have hb14 : s14.size ≤ 500 := by omega
    have HG14 := Lib.hid hG14
    have HK14 := Lib.hid (HK13.out.trans hK14)
    clear hG14 hK14
    have c14 := HG14.out.c0
    go_wp2_with fail
    refine (greset k HG14.out (by omega)).mono ?_
    rintro e w15 ⟨rfl, hG15, hK15⟩
    have HG15 := Lib.hid hG15
    have HK15 := Lib.hid (HK14.out.trans hK15)
    clear hG15 hK15
    have c15 := HG15.out.c0
    go_wp2_with fail
    go_ret
    exact ⟨_, f14, rfl, by (try simp [ByteArray.size_append, size_lit]); omega, by omega, by omega, HG15.out, HK15.out⟩
  · go_wp2_with fail
    refine (HE.out _ _ _ _ _ _ HG1.out HN.out (by omega)).mono ?_
    rintro e w10 ⟨s10, f10, rfl, hs10, hf10, hg10, hG10, hK10⟩
    have hb10 : s10.size ≤ 500 := by omega
    have HG10 := Lib.hid hG10
    have HK10 := Lib.hid (HK1.out.trans hK10)
    clear hG10 hK10
    have c10 := HG10.out.c0
    go_wp2_with fail
    go_ret
    exact ⟨_, f10, rfl, by (try simp [ByteArray.size_append, size_lit]); omega, by omega, by omega, HG10.out, HK10.out⟩
  · have HE := Lib.hid hE0
    go_wp2_with fail
    refine (HE.out _ _ _ _ _ _ HG1.out HN.out (by omega)).mono ?_
    rintro e w10 ⟨s10, f10, rfl, hs10, hf10, hg10, hG10, hK10⟩
    have hb10 : s10.size ≤ 500 := by omega
    have HG10 := Lib.hid hG10
    have HK10 := Lib.hid (HK1.out.trans hK10)
    clear hG10 hK10
    have c10 := HG10.out.c0
    go_wp2_with fail
    go_ret
    exact ⟨_, f10, rfl, by (try simp [ByteArray.size_append, size_lit]); omega, by omega, by omega, HG10.out, HK10.out⟩

end Go.Proofs.YtkjjagmpnnnimaaGreatDoor

namespace Go.Proofs.YtkjjagmpnnnimaaGreatDoor
open Go.RowKit M

set_option maxRecDepth 100000 in
set_option maxHeartbeats 12800000 in
theorem glocal {dep dep' : Int} {L D : Nat} (hE : ECon dep' L D) (hd : IntKind.i64.wrap (dep - 1) = dep') (hL : L ≤ 300) (t : Int) {w : World} {Pr : Nat → Prop} {X : GC} {k fr : Nat} (h : GSt w Pr X k fr) (hn : X.n ≤ maxLen) (hf : fr + (1 + 3 * D) ≤ 1000) :
    Calls Tryz.prog 39 #[.pointer (some ⟨X.wb, 0, none⟩), .int .i64 t, .int .i64 dep] w (GPost w Pr X k fr (17 + 3 * L) (1 + 3 * D)) := by
  have k0 := h.c0
  have hkf := h.kf
  have HS := Lib.hid h
  have HN := Lib.hid hn
  have HE := Lib.hid hE
  have HL := Lib.hid h.lt
  have HK0 : Hid (Keep Pr w w) := Keep.refl Pr w
  clear h hn hE
  go_enter Tryz.func39, Tryz.ntmps39
  go_wp2_with fail
  refine (gnext 6 6 rfl (by decide) (by decide) HS.out HN.out).mono ?_
  rintro e w10 ⟨r10, hr10, rfl, hG10, hK10⟩
  have HG10 := Lib.hid hG10
  have HK10 := Lib.hid (HK0.out.trans hK10)
  clear hG10 hK10
  have c10 := HG10.out.c0
  have hd10 := digS_size r10
  go_wp2_with fail
  refine (HE.out _ _ _ _ _ _ HG10.out HN.out (by omega)).mono ?_
  rintro e w11 ⟨s11, f11, rfl, hs11, hf11, hg11, hG11, hK11⟩
  have hb11 : s11.size ≤ 500 := by omega
  have HG11 := Lib.hid hG11
  have HK11 := Lib.hid (HK10.out.trans hK11)
  clear hG11 hK11
  have c11 := HG11.out.c0
  go_wp2_with fail
  refine (gmark HG11.out).mono ?_
  rintro e w12 ⟨rfl, rfl⟩
  go_wp2_with fail
  refine (gbind _ HG11.out (by omega)).mono ?_
  rintro e w13 ⟨s13, rfl, hb13, hG13, hK13⟩
  have HG13 := Lib.hid hG13
  have HK13 := Lib.hid (HK11.out.trans hK13)
  clear hG13 hK13
  have c13 := HG13.out.c0
  go_wp2_with fail
  refine (HE.out _ _ _ _ _ _ HG13.out HN.out (by omega)).mono ?_
  rintro e w14 ⟨s14, f14, rfl, hs14, hf14, hg14, hG14, hK14⟩
  have hb14 : s14.size ≤ 500 := by omega
  have HG14 := Lib.hid hG14
  have HK14 := Lib.hid (HK13.out.trans hK14)
  clear hG14 hK14
  have c14 := HG14.out.c0
  go_wp2_with fail
  refine (greset k HG14.out (by omega)).mono ?_
  rintro e w15 ⟨rfl, hG15, hK15⟩
  have HG15 := Lib.hid hG15
  have HK15 := Lib.hid (HK14.out.trans hK15)
  clear hG15 hK15
  have c15 := HG15.out.c0
  go_wp2_with fail
  go_ret
  exact ⟨_, f14, rfl, by (try simp [ByteArray.size_append, size_lit]); omega, by omega, by omega, HG15.out, HK15.out⟩

end Go.Proofs.YtkjjagmpnnnimaaGreatDoor
