/- The writer of sources: sequences. Conditions: expr's contract one level down; at most 1000 names. -/
import Derived.Test.YtkjjagmpnnnimaaGreatDoorQ13
namespace Go.Proofs.YtkjjagmpnnnimaaGreatDoor
open Go.RowKit M

set_option maxRecDepth 100000 in
set_option maxHeartbeats 12800000 in
theorem gsequence {dep dep' : Int} {L D : Nat} (hE : ECon dep' L D) (hd : IntKind.i64.wrap (dep - 1) = dep') (hL : L ≤ 300) {w : World} {Pr : Nat → Prop} {X : GC} {k fr : Nat} (h : GSt w Pr X k fr) (hn : X.n ≤ maxLen) (hf : fr + (1 + 3 * D) ≤ 1000) :
    Calls Tryz.prog 42 #[.pointer (some ⟨X.wb, 0, none⟩), .int .i64 dep] w (GPost w Pr X k fr (17 + 3 * L) (1 + 3 * D)) := by
  have k0 := h.c0
  have hkf := h.kf
  have HS := Lib.hid h
  have HN := Lib.hid hn
  have HE := Lib.hid hE
  have HL := Lib.hid h.lt
  have HK0 : Hid (Keep Pr w w) := Keep.refl Pr w
  clear h hn hE
  go_enter Tryz.func42, Tryz.ntmps42
  go_wp2_with fail
  refine (gnext 7 7 rfl (by decide) (by decide) HS.out HN.out).mono ?_
  rintro e w1 ⟨r1, hr1, rfl, hG1, hK1⟩
  have HG1 := Lib.hid hG1
  have HK1 := Lib.hid (HK0.out.trans hK1)
  clear hG1 hK1
  have c1 := HG1.out.c0
  have hd1 := digS_size r1
  have hc : r1 = 0 ∨ r1 = 1 ∨ r1 = 2 ∨ r1 = 3 ∨ r1 = 4 ∨ r1 = 5 ∨ r1 = 6 := by omega
  rcases hc with rfl | rfl | rfl | rfl | rfl | rfl | rfl
  · go_wp2_with fail
    refine (HE.out _ _ _ _ _ _ HG1.out HN.out (by omega)).mono ?_
    rintro e w10 ⟨s10, f10, rfl, hs10, hf10, hg10, hG10, hK10⟩
    have hb10 : s10.size ≤ 500 := by omega
    have HG10 := Lib.hid hG10
    have HK10 := Lib.hid (HK1.out.trans hK10)
    clear hG10 hK10
    have c10 := HG10.out.c0
    go_wp2_with fail
    refine (HE.out _ _ _ _ _ _ HG10.out HN.out (by omega)).mono ?_
    rintro e w11 ⟨s11, f11, rfl, hs11, hf11, hg11, hG11, hK11⟩
    have hb11 : s11.size ≤ 500 := by omega
    have HG11 := Lib.hid hG11
    have HK11 := Lib.hid (HK10.out.trans hK11)
    clear hG11 hK11
    have c11 := HG11.out.c0
    go_wp2_with fail
    go_ret
    exact ⟨_, f11, rfl, by (try simp [ByteArray.size_append, size_lit]); omega, by omega, by omega, HG11.out, HK11.out⟩
  · go_wp2_with fail
    refine (HE.out _ _ _ _ _ _ HG1.out HN.out (by omega)).mono ?_
    rintro e w10 ⟨s10, f10, rfl, hs10, hf10, hg10, hG10, hK10⟩
    have hb10 : s10.size ≤ 500 := by omega
    have HG10 := Lib.hid hG10
    have HK10 := Lib.hid (HK1.out.trans hK10)
    clear hG10 hK10
    have c10 := HG10.out.c0
    go_wp2_with fail
    refine (HE.out _ _ _ _ _ _ HG10.out HN.out (by omega)).mono ?_
    rintro e w11 ⟨s11, f11, rfl, hs11, hf11, hg11, hG11, hK11⟩
    have hb11 : s11.size ≤ 500 := by omega
    have HG11 := Lib.hid hG11
    have HK11 := Lib.hid (HK10.out.trans hK11)
    clear hG11 hK11
    have c11 := HG11.out.c0
    go_wp2_with fail
    go_ret
    exact ⟨_, f11, rfl, by (try simp [ByteArray.size_append, size_lit]); omega, by omega, by omega, HG11.out, HK11.out⟩
  · go_wp2_with fail
    refine (HE.out _ _ _ _ _ _ HG1.out HN.out (by omega)).mono ?_
    rintro e w10 ⟨s10, f10, rfl, hs10, hf10, hg10, hG10, hK10⟩
    have hb10 : s10.size ≤ 500 := by omega
    have HG10 := Lib.hid hG10
    have HK10 := Lib.hid (HK1.out.trans hK10)
    clear hG10 hK10
    have c10 := HG10.out.c0
    go_wp2_with fail
    go_ret
    exact ⟨_, f10, rfl, by (try simp [ByteArray.size_append, size_lit]); omega, by omega, by omega, HG10.out, HK10.out⟩
  · go_wp2_with fail
    refine (HE.out _ _ _ _ _ _ HG1.out HN.out (by omega)).mono ?_
    rintro e w10 ⟨s10, f10, rfl, hs10, hf10, hg10, hG10, hK10⟩
    have hb10 : s10.size ≤ 500 := by omega
    have HG10 := Lib.hid hG10
    have HK10 := Lib.hid (HK1.out.trans hK10)
    clear hG10 hK10
    have c10 := HG10.out.c0
    go_wp2_with fail
    refine (gmark HG10.out).mono ?_
    rintro e w11 ⟨rfl, rfl⟩
    go_wp2_with fail
    refine (gbind _ HG10.out (by omega)).mono ?_
    rintro e w12 ⟨s12, rfl, hb12, hG12, hK12⟩
    have HG12 := Lib.hid hG12
    have HK12 := Lib.hid (HK10.out.trans hK12)
    clear hG12 hK12
    have c12 := HG12.out.c0
    go_wp2_with fail
    refine (HE.out _ _ _ _ _ _ HG12.out HN.out (by omega)).mono ?_
    rintro e w13 ⟨s13, f13, rfl, hs13, hf13, hg13, hG13, hK13⟩
    have hb13 : s13.size ≤ 500 := by omega
    have HG13 := Lib.hid hG13
    have HK13 := Lib.hid (HK12.out.trans hK13)
    clear hG13 hK13
    have c13 := HG13.out.c0
    go_wp2_with fail
    refine (HE.out _ _ _ _ _ _ HG13.out HN.out (by omega)).mono ?_
    rintro e w14 ⟨s14, f14, rfl, hs14, hf14, hg14, hG14, hK14⟩
    have hb14 : s14.size ≤ 500 := by omega
    have HG14 := Lib.hid hG14
    have HK14 := Lib.hid (HK13.out.trans hK14)
    clear hG14 hK14
    have c14 := HG14.out.c0
    go_wp2_with fail
    refine (greset k HG14.out (by omega)).mono ?_
    rintro e w15 ⟨rfl, hG15, hK15⟩
    have HG15 := Lib.hid hG15
    have HK15 := Lib.hid (HK14.out.trans hK15)
    clear hG15 hK15
    have c15 := HG15.out.c0
    go_wp2_with fail
    go_ret
    exact ⟨_, f14, rfl, by (try simp [ByteArray.size_append, size_lit]); omega, by omega, by omega, HG15.out, HK15.out⟩
  · go_wp2_with fail
    have HGd := Lib.hid HG1.out.drew
    have HKd := Lib.hid HK1.out.drew
    refine wp_region_noPanic ?_
    refine wp_region_held_drew (S := fun W => W.cell? ⟨X.wb, 0, none⟩ = some (.pointer (some ⟨X.g, 0, none⟩))) (by kernel_rfl) (HGd.out.c0) (fun _ => ?_)
    generalize w1.drew = wd at *
    try simp only [Act.put, List.setIfInBounds_toArray, List.set_cons_zero, List.set_cons_succ]
    refine wpAnyH_take (i := 0) (oi := { dst := some 84, op := Op.move (Operand.tmp 0), type := 45, pos := "source.go:167", after := #[], guard := none }) (v := ?_) rfl (by kernel_rfl) (by kernel_rfl) (by kernel_rfl) (fun _ _ _ h => h) (Or.inl ⟨by rfl, ?_⟩) (HGd.out.c0) ?_
    rotate_left 1
    · intro w hSw
      try dsimp only at hSw
      go_simp
      first
        | done
        | with_reducible rfl
        | rw [if_neg (by omega)]
    try simp only [Act.put, List.setIfInBounds_toArray, List.set_cons_zero, List.set_cons_succ]
    refine wpAnyH_take (i := 1) (oi := { dst := some 85, op := Op.nilCheck (Operand.tmp 84), type := 0, pos := "source.go:167", after := #[{ on := 0, ground := Ground.data }], guard := none }) (v := ?_) rfl (by kernel_rfl) (by kernel_rfl) (by kernel_rfl) (fun _ _ _ h => h) (Or.inl ⟨by rfl, ?_⟩) (HGd.out.c0) ?_
    rotate_left 1
    · intro w hSw
      try dsimp only at hSw
      go_simp
      first
        | done
        | with_reducible rfl
        | rw [if_neg (by omega)]
    try simp only [Act.put, List.setIfInBounds_toArray, List.set_cons_zero, List.set_cons_succ]
    refine wpAnyH_take (i := 2) (oi := { dst := some 86, op := Op.fieldAddr 47 (Operand.tmp 85) 0, type := 0, pos := "source.go:167", after := #[{ on := 1, ground := Ground.data }], guard := none }) (v := ?_) rfl (by kernel_rfl) (by kernel_rfl) (by kernel_rfl) (fun _ _ _ h => h) (Or.inl ⟨by rfl, ?_⟩) (HGd.out.c0) ?_
    rotate_left 1
    · intro w hSw
      try dsimp only at hSw
      go_simp
      first
        | done
        | with_reducible rfl
        | rw [if_neg (by omega)]
    try simp only [Act.put, List.setIfInBounds_toArray, List.set_cons_zero, List.set_cons_succ]
    refine wpAnyH_take (i := 3) (oi := { dst := some 87, op := Op.load 40 (Operand.tmp 86), type := 40, pos := "source.go:167", after := #[{ on := 2, ground := Ground.data }], guard := none }) (v := ?_) rfl (by kernel_rfl) (by kernel_rfl) (by kernel_rfl) (fun _ _ _ h => h) (Or.inl ⟨by rfl, ?_⟩) (HGd.out.c0) ?_
    rotate_left 1
    · intro w hSw
      try dsimp only at hSw
      go_simp
      first
        | done
        | with_reducible rfl
        | rw [if_neg (by omega)]
    try simp only [Act.put, List.setIfInBounds_toArray, List.set_cons_zero, List.set_cons_succ]
    refine wpAnyH_take (i := 8) (oi := { dst := some 92, op := Op.move (Operand.tmp 0), type := 45, pos := "source.go:167", after := #[], guard := none }) (v := ?_) rfl (by kernel_rfl) (by kernel_rfl) (by kernel_rfl) (fun _ _ _ h => h) (Or.inl ⟨by rfl, ?_⟩) (HGd.out.c0) ?_
    rotate_left 1
    · intro w hSw
      try dsimp only at hSw
      go_simp
      first
        | done
        | with_reducible rfl
        | rw [if_neg (by omega)]
    try simp only [Act.put, List.setIfInBounds_toArray, List.set_cons_zero, List.set_cons_succ]
    refine wpAnyH_take (i := 9) (oi := { dst := some 93, op := Op.nilCheck (Operand.tmp 92), type := 0, pos := "source.go:167", after := #[{ on := 8, ground := Ground.data }], guard := none }) (v := ?_) rfl (by kernel_rfl) (by kernel_rfl) (by kernel_rfl) (fun _ _ _ h => h) (Or.inl ⟨by rfl, ?_⟩) (HGd.out.c0) ?_
    rotate_left 1
    · intro w hSw
      try dsimp only at hSw
      go_simp
      first
        | done
        | with_reducible rfl
        | rw [if_neg (by omega)]
    try simp only [Act.put, List.setIfInBounds_toArray, List.set_cons_zero, List.set_cons_succ]
    refine wpAnyH_take (i := 10) (oi := { dst := some 94, op := Op.fieldAddr 47 (Operand.tmp 93) 0, type := 0, pos := "source.go:167", after := #[{ on := 9, ground := Ground.data }], guard := none }) (v := ?_) rfl (by kernel_rfl) (by kernel_rfl) (by kernel_rfl) (fun _ _ _ h => h) (Or.inl ⟨by rfl, ?_⟩) (HGd.out.c0) ?_
    rotate_left 1
    · intro w hSw
      try dsimp only at hSw
      go_simp
      first
        | done
        | with_reducible rfl
        | rw [if_neg (by omega)]
    try simp only [Act.put, List.setIfInBounds_toArray, List.set_cons_zero, List.set_cons_succ]
    refine wpAnyH_take (i := 11) (oi := { dst := some 95, op := Op.load 40 (Operand.tmp 94), type := 40, pos := "source.go:167", after := #[{ on := 10, ground := Ground.data }], guard := none }) (v := ?_) rfl (by kernel_rfl) (by kernel_rfl) (by kernel_rfl) (fun _ _ _ h => h) (Or.inl ⟨by rfl, ?_⟩) (HGd.out.c0) ?_
    rotate_left 1
    · intro w hSw
      try dsimp only at hSw
      go_simp
      first
        | done
        | with_reducible rfl
        | rw [if_neg (by omega)]
    try simp only [Act.put, List.setIfInBounds_toArray, List.set_cons_zero, List.set_cons_succ]
    refine wpAnyH_ready (rs := [4]) (by kernel_rfl) (by simp) ?_
    refine AllReadyH.cons (o := { dst := some 88, op := Op.call { callee := Callee.value (Operand.func 14), args := #[Operand.tmp 87, Operand.const (Value.int IntKind.i64 4)], argTypes := #[40, 3] }, type := 3, pos := "source.go:167", after := #[{ on := 3, ground := Ground.data }], guard := none }) rfl (fun K hK => ?_) (AllReadyH.nil)
    go_simp
    go_at_call 14
    refine (gnext 4 4 rfl (by decide) (by decide) HGd.out HN.out).mono ?_
    rintro e w50 ⟨r50, hr50, rfl, hG50, hK50⟩
    have HG50 := Lib.hid hG50
    have HK50 := Lib.hid (HKd.out.trans hK50)
    clear hG50 hK50
    try dsimp only
    have hx50 : (0 : Int) ≤ (r50 : Int) := by omega
    have hy50 : (r50 : Int) < 4 := by omega
    have hd50 := digS_size r50
    refine hK.out _ _ (HG50.out.c0) (fun _ => ?_)
    clear hK K
    try simp only [Act.put, List.setIfInBounds_toArray, List.set_cons_zero, List.set_cons_succ]
    refine wpAnyH_ready (rs := [5]) (by kernel_rfl) (by simp) ?_
    refine AllReadyH.cons (o := { dst := some 89, op := Op.call { callee := Callee.value (Operand.func 13), args := #[Operand.tmp 88], argTypes := #[3] }, type := 9, pos := "source.go:167", after := #[{ on := 4, ground := Ground.data }, { on := 4, ground := Ground.chain }], guard := none }) rfl (fun K hK => ?_) (AllReadyH.nil)
    go_simp
    go_at_call 13
    refine (gdig _ r50 rfl (by omega) _).mono ?_
    rintro e w51 ⟨rfl, rfl⟩
    try dsimp only
    refine hK.out _ _ (HG50.out.c0) (fun _ => ?_)
    clear hK K
    try simp only [Act.put, List.setIfInBounds_toArray, List.set_cons_zero, List.set_cons_succ]
    refine wpAnyH_take (i := 6) (oi := { dst := some 90, op := Op.binOp BinOp.add 9 (Operand.const (Value.string { data := #[116, 97, 107, 101, 40] })) (Operand.tmp 89) 9, type := 9, pos := "source.go:167", after := #[{ on := 5, ground := Ground.data }], guard := none }) (v := ?_) rfl (by kernel_rfl) (by kernel_rfl) (by kernel_rfl) (fun _ _ _ h => h) (Or.inl ⟨by rfl, ?_⟩) (HG50.out.c0) ?_
    rotate_left 1
    · intro w hSw
      try dsimp only at hSw
      go_simp
      first
        | done
        | with_reducible rfl
        | rw [if_neg (by omega)]
    try simp only [Act.put, List.setIfInBounds_toArray, List.set_cons_zero, List.set_cons_succ]
    refine wpAnyH_take (i := 7) (oi := { dst := some 91, op := Op.binOp BinOp.add 9 (Operand.tmp 90) (Operand.const (Value.string { data := #[44, 32, 60] })) 9, type := 9, pos := "source.go:167", after := #[{ on := 6, ground := Ground.data }], guard := none }) (v := ?_) rfl (by kernel_rfl) (by kernel_rfl) (by kernel_rfl) (fun _ _ _ h => h) (Or.inl ⟨by rfl, ?_⟩) (HG50.out.c0) ?_
    rotate_left 1
    · intro w hSw
      try dsimp only at hSw
      go_simp
      first
        | done
        | with_reducible rfl
        | rw [if_neg (by omega)]
    try simp only [Act.put, List.setIfInBounds_toArray, List.set_cons_zero, List.set_cons_succ]
    refine wpAnyH_ready (rs := [12]) (by kernel_rfl) (by simp) ?_
    refine AllReadyH.cons (o := { dst := some 96, op := Op.call { callee := Callee.value (Operand.func 14), args := #[Operand.tmp 95, Operand.const (Value.int IntKind.i64 4)], argTypes := #[40, 3] }, type := 3, pos := "source.go:167", after := #[{ on := 11, ground := Ground.data }, { on := 5, ground := Ground.chain }], guard := none }) rfl (fun K hK => ?_) (AllReadyH.nil)
    go_simp
    go_at_call 14
    refine (gnext 4 4 rfl (by decide) (by decide) HG50.out HN.out).mono ?_
    rintro e w52 ⟨r52, hr52, rfl, hG52, hK52⟩
    have HG52 := Lib.hid hG52
    have HK52 := Lib.hid (HK50.out.trans hK52)
    clear hG52 hK52
    try dsimp only
    have hx52 : (0 : Int) ≤ (r52 : Int) := by omega
    have hy52 : (r52 : Int) < 4 := by omega
    have hd52 := digS_size r52
    refine hK.out _ _ (HG52.out.c0) (fun _ => ?_)
    clear hK K
    try simp only [Act.put, List.setIfInBounds_toArray, List.set_cons_zero, List.set_cons_succ]
    refine wpAnyH_ready (rs := [13]) (by kernel_rfl) (by simp) ?_
    refine AllReadyH.cons (o := { dst := some 97, op := Op.call { callee := Callee.value (Operand.func 13), args := #[Operand.tmp 96], argTypes := #[3] }, type := 9, pos := "source.go:167", after := #[{ on := 12, ground := Ground.data }, { on := 12, ground := Ground.chain }], guard := none }) rfl (fun K hK => ?_) (AllReadyH.nil)
    go_simp
    go_at_call 13
    refine (gdig _ r52 rfl (by omega) _).mono ?_
    rintro e w53 ⟨rfl, rfl⟩
    try dsimp only
    refine hK.out _ _ (HG52.out.c0) (fun _ => ?_)
    clear hK K
    try simp only [Act.put, List.setIfInBounds_toArray, List.set_cons_zero, List.set_cons_succ]
    refine wpAnyH_take (i := 14) (oi := { dst := some 98, op := Op.binOp BinOp.add 9 (Operand.tmp 91) (Operand.tmp 97) 9, type := 9, pos := "source.go:167", after := #[{ on := 7, ground := Ground.data }, { on := 13, ground := Ground.data }], guard := none }) (v := ?_) rfl (by kernel_rfl) (by kernel_rfl) (by kernel_rfl) (fun _ _ _ h => h) (Or.inl ⟨by rfl, ?_⟩) (HG52.out.c0) ?_
    rotate_left 1
    · intro w hSw
      try dsimp only at hSw
      go_simp
      first
        | done
        | with_reducible rfl
        | rw [if_neg (by omega)]
    try simp only [Act.put, List.setIfInBounds_toArray, List.set_cons_zero, List.set_cons_succ]
    refine wpAnyH_take (i := 15) (oi := { dst := some 99, op := Op.binOp BinOp.add 9 (Operand.tmp 98) (Operand.const (Value.string { data := #[46, 46, 62, 41] })) 9, type := 9, pos := "source.go:167", after := #[{ on := 14, ground := Ground.data }], guard := none }) (v := ?_) rfl (by kernel_rfl) (by kernel_rfl) (by kernel_rfl) (fun _ _ _ h => h) (Or.inl ⟨by rfl, ?_⟩) (HG52.out.c0) ?_
    rotate_left 1
    · intro w hSw
      try dsimp only at hSw
      go_simp
      first
        | done
        | with_reducible rfl
        | rw [if_neg (by omega)]
    try simp only [Act.put, List.setIfInBounds_toArray, List.set_cons_zero, List.set_cons_succ]
    refine wpAnyH_take (i := 16) (oi := { dst := some 4, op := Op.assign (Operand.tmp 99), type := 9, pos := "source.go:167", after := #[{ on := 15, ground := Ground.data }, { on := 13, ground := Ground.chain }, { on := 0, ground := Ground.phase }, { on := 1, ground := Ground.phase }, { on := 2, ground := Ground.phase }, { on := 3, ground := Ground.phase }, { on := 4, ground := Ground.phase }, { on := 5, ground := Ground.phase }, { on := 6, ground := Ground.phase }, { on := 7, ground := Ground.phase }, { on := 8, ground := Ground.phase }, { on := 9, ground := Ground.phase }, { on := 10, ground := Ground.phase }, { on := 11, ground := Ground.phase }, { on := 12, ground := Ground.phase }, { on := 13, ground := Ground.phase }, { on := 14, ground := Ground.phase }, { on := 15, ground := Ground.phase }], guard := none }) (v := ?_) rfl (by kernel_rfl) (by kernel_rfl) (by kernel_rfl) (fun _ _ _ h => h) (Or.inl ⟨by rfl, ?_⟩) (HG52.out.c0) ?_
    rotate_left 1
    · intro w hSw
      try dsimp only at hSw
      go_simp
      first
        | done
        | with_reducible rfl
        | rw [if_neg (by omega)]
    try simp only [Act.put, List.setIfInBounds_toArray, List.set_cons_zero, List.set_cons_succ]
    refine wpAnyH_done (by kernel_rfl) ?_ _
    refine NoPanic.normal ?_
    go_wp2_with fail
    go_ret
    exact ⟨_, fr, rfl, by (try simp [ByteArray.size_append, size_lit]); omega, by omega, by omega, HG52.out, HK52.out⟩
  · go_wp2_with fail
    refine (HE.out _ _ _ _ _ _ HG1.out HN.out (by omega)).mono ?_
    rintro e w10 ⟨s10, f10, rfl, hs10, hf10, hg10, hG10, hK10⟩
    have hb10 : s10.size ≤ 500 := by omega
    have HG10 := Lib.hid hG10
    have HK10 := Lib.hid (HK1.out.trans hK10)
    clear hG10 hK10
    have c10 := HG10.out.c0
    go_wp2_with fail
    go_ret
    exact ⟨_, f10, rfl, by (try simp [ByteArray.size_append, size_lit]); omega, by omega, by omega, HG10.out, HK10.out⟩
  · go_wp2_with fail
    refine (HE.out _ _ _ _ _ _ HG1.out HN.out (by omega)).mono ?_
    rintro e w10 ⟨s10, f10, rfl, hs10, hf10, hg10, hG10, hK10⟩
    have hb10 : s10.size ≤ 500 := by omega
    have HG10 := Lib.hid hG10
    have HK10 := Lib.hid (HK1.out.trans hK10)
    clear hG10 hK10
    have c10 := HG10.out.c0
    go_wp2_with fail
    refine (HE.out _ _ _ _ _ _ HG10.out HN.out (by omega)).mono ?_
    rintro e w11 ⟨s11, f11, rfl, hs11, hf11, hg11, hG11, hK11⟩
    have hb11 : s11.size ≤ 500 := by omega
    have HG11 := Lib.hid hG11
    have HK11 := Lib.hid (HK10.out.trans hK11)
    clear hG11 hK11
    have c11 := HG11.out.c0
    go_wp2_with fail
    go_ret
    exact ⟨_, f11, rfl, by (try simp [ByteArray.size_append, size_lit]); omega, by omega, by omega, HG11.out, HK11.out⟩

end Go.Proofs.YtkjjagmpnnnimaaGreatDoor
