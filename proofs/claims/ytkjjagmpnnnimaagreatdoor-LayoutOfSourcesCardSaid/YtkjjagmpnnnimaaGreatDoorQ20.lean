/- The writer of sources: Source returns a string of at most 2000 bytes. Conditions: numbers that came in. The program's builder of Insert: openBlock, closeBlock and column. Condition: fewer than a thousand million tokens and blocks. The program's isCloser, isAfter, begin and proceed: the blocks that a token opens and closes. Condition: fewer than a thousand million tokens and blocks. -/
import Derived.Test.YtkjjagmpnnnimaaGreatDoorQ19
import Derived.Test.YtkjjagmpnnnimaaGreatDoorQ9
import Derived.Deep.QuietTactic
import Derived.BigQuiet
import Derived.Deep.RegionHeld3
namespace Go.Proofs.YtkjjagmpnnnimaaGreatDoor
open Go.RowKit M

theorem econ1 : ECon 1 44 1 := gexpr_up gexpr0 gexpr0 (by decide) (by decide) (by decide)
theorem econ2 : ECon 2 149 4 := gexpr_up econ1 (gexpr0.mono (by decide) (by decide)) (by decide) (by decide) (by decide)
theorem pcon1 : PCon 1 108 2 := gproc_up gproc0 econ1 (by decide) (by decide) (by decide) (by decide)
theorem pcon2 : PCon 2 300 6 := gproc_up pcon1 econ1 (by decide) (by decide) (by decide) (by decide)

/-- the writer as Source begins -/
theorem gstart (w : World) (A : Option Addr) (n c : Nat) (hA : InInts w A n) :
    GSt ((w.alloc (.cells #[.slice A n c, .int .i64 0] 64)).alloc (.cells #[.pointer (some ⟨w.heap.size, 0, none⟩), .slice none 0 0, .slice none 0 0, .int .i64 2, .int .i64 0] 47)) (· < w.heap.size) ⟨w.heap.size + 1, w.heap.size, A, n, c, 2⟩ 0 0 := by
  have h1 : Keep (· < w.heap.size) w ((w.alloc (.cells #[.slice A n c, .int .i64 0] 64)).alloc (.cells #[.pointer (some ⟨w.heap.size, 0, none⟩), .slice none 0 0, .slice none 0 0, .int .i64 2, .int .i64 0] 47)) := ((Keep.refl _ w).alloc (fun _ q => q) _).alloc (fun _ q => q) _
  refine ⟨.slice none 0 0, .slice none 0 0, [], [], 0, ⟨?_, ?_, Nat.zero_le _, ⟨w.heap.size, Nat.le_refl _, (IntsAt.of hA).keep h1 (fun _ q => q), fun _ q => q⟩, World.ownsRow_nil _ _ _ _, World.ownsRow_nil _ _ _ _, fun x hx => (by cases hx), fun x hx => (by cases hx), Nat.le_refl _, ?_, ?_, fun j hj => by simp [Value.ownBlock] at hj, fun j hj => by simp [Value.ownBlock] at hj, fun j hj => Nat.lt_of_lt_of_le hj h1.size⟩⟩
  · exact heap_new2 _ _ _
  · exact Blk.alloc (Blk.new w _ _) _
  · simp
  · exact Nat.lt_irrefl _

set_option maxRecDepth 100000 in
set_option maxHeartbeats 12800000 in
theorem gsource (w : World) (A : Option Addr) (n c : Nat) (hA : InInts w A n) (hn : n ≤ maxLen) :
    Calls Tryz.prog 6 #[.slice A n c] w fun e w' => ∃ s : ByteArray, e = .returned (.string s) ∧ s.size ≤ 2000 ∧ Below w.heap.size w w' := by
  have HST := Lib.hid (gstart w A n c hA)
  have HE := Lib.hid econ2
  have HP := Lib.hid pcon2
  have HP1 := Lib.hid pcon1
  have HKS : Hid (Keep (· < w.heap.size) w ((w.alloc (.cells #[.slice A n c, .int .i64 0] 64)).alloc (.cells #[.pointer (some ⟨w.heap.size, 0, none⟩), .slice none 0 0, .slice none 0 0, .int .i64 2, .int .i64 0] 47))) := ((Keep.refl _ w).alloc (fun _ q => q) _).alloc (fun _ q => q) _
  have HNN := Lib.hid hn
  clear hA hn
  go_enter Tryz.func6, Tryz.ntmps6
  go_wp2_with fail
  refine (new_cho w A n c).mono ?_
  rintro e w0 ⟨rfl, rfl⟩
  go_wp2_with fail
  obtain ⟨X, hX⟩ : ∃ X : GC, X = ⟨w.heap.size + 1, w.heap.size, A, n, c, 2⟩ := ⟨_, rfl⟩
  have HX := Lib.hid hX
  have HN : Hid (X.n ≤ maxLen) := by rw [hX]; exact HNN.out
  have HF : Hid (X.F = 2) := by rw [hX]; rfl
  have ewb : w.heap.size + 1 = X.wb := by rw [hX]
  have eg : w.heap.size = X.g := by rw [hX]
  rw [← hX] at HST
  generalize (w.alloc (.cells #[.slice A n c, .int .i64 0] 64)).alloc (.cells #[.pointer (some ⟨w.heap.size, 0, none⟩), .slice none 0 0, .slice none 0 0, .int .i64 2, .int .i64 0] 47) = w1 at *
  have HL : Hid (∀ j, (· < w.heap.size) j → j < w.heap.size) := Lib.hid (fun _ q => q)
  generalize hPr : (fun j => j < w.heap.size) = Pr at *
  rw [ewb]
  clear hX ewb eg HNN
  go_loopw [4, 5] (fun s i wr => ∃ (st : ByteArray) (j fr : Nat), s = .string st ∧ i = .int .i64 j ∧ j ≤ 2 ∧ st.size ≤ 400 + j * 200 ∧ fr ≤ j * 5 ∧ Hid (GSt wr Pr X 0 fr) ∧ Hid (Keep Pr w wr)) (fun _ i _ => 3 - (intOf i).toNat)
  case atStart => exact ⟨_, 0, 0, rfl, rfl, by omega, by decide, by omega, HST, HKS⟩
  case round =>
    obtain ⟨st, j, fr, rfl, rfl, hj, hst, hfr, HG, HK⟩ := hrel
    have hkf := HG.out.kf
    have c0 := HG.out.c0
    clear HST HKS
    go_wp2_with fail
    refine (gnext 2 2 rfl (by decide) (by decide) HG.out HN.out).mono ?_
    rintro e w1 ⟨r1, hr1, rfl, hG1, hK1⟩
    have HG1 := Lib.hid hG1
    have HK1 := Lib.hid (HK.out.trans hK1)
    clear hG1 hK1
    have c1 := HG1.out.c0
    have hd1 := digS_size r1
    have hw1 : IntKind.i64.wrap (1 + (r1 : Int)) = 1 + (r1 : Int) := IntWalk.i64_in _ (by omega)
    by_cases hlt : j < 1 + r1
    · have hlt2 : (j : Int) < 1 + (r1 : Int) := by omega
      clear hlt
      go_wp2_with fail
      refine (gmark HG1.out).mono ?_
      rintro e w10 ⟨rfl, rfl⟩
      go_wp2_with fail
      refine (gnext 6 6 rfl (by decide) (by decide) HG1.out HN.out).mono ?_
      rintro e w11 ⟨r11, hr11, rfl, hG11, hK11⟩
      have HG11 := Lib.hid hG11
      have HK11 := Lib.hid (HK1.out.trans hK11)
      clear hG11 hK11
      have c11 := HG11.out.c0
      have hd11 := digS_size r11
      go_wp2_with fail
      refine (gbind _ HG11.out (by omega)).mono ?_
      rintro e w12 ⟨s12, rfl, hb12, hG12, hK12⟩
      have HG12 := Lib.hid hG12
      have HK12 := Lib.hid (HK11.out.trans hK12)
      clear hG12 hK12
      have c12 := HG12.out.c0
      go_wp2_with fail
      have HGd := Lib.hid HG12.out.drew
      have HKd := Lib.hid HK12.out.drew
      refine wp_region_noPanic ?_
      refine wp_region_held_drew (S := fun W => W.cell? ⟨X.wb, 0, none⟩ = some (.pointer (some ⟨X.g, 0, none⟩))) (by kernel_rfl) (HGd.out.c0) (fun _ => ?_)
      generalize w12.drew = wd at *
      try simp only [Act.put, List.setIfInBounds_toArray, List.set_cons_zero, List.set_cons_succ]
      refine wpAnyH_take (i := 0) (oi := { dst := some 36, op := Op.move (Operand.tmp 4), type := 9, pos := "source.go:269", after := #[], guard := none }) (v := ?_) rfl (by kernel_rfl) (by kernel_rfl) (by kernel_rfl) (fun _ _ _ h => h) (Or.inl ⟨by rfl, ?_⟩) (HGd.out.c0) ?_
      rotate_left 1
      · intro w hSw
        try dsimp only at hSw
        go_simp
        first
          | done
          | with_reducible rfl
          | rw [if_neg (by omega)]
      try simp only [Act.put, List.setIfInBounds_toArray, List.set_cons_zero, List.set_cons_succ]
      refine wpAnyH_take (i := 1) (oi := { dst := some 37, op := Op.move (Operand.tmp 5), type := 3, pos := "source.go:269", after := #[], guard := none }) (v := ?_) rfl (by kernel_rfl) (by kernel_rfl) (by kernel_rfl) (fun _ _ _ h => h) (Or.inl ⟨by rfl, ?_⟩) (HGd.out.c0) ?_
      rotate_left 1
      · intro w hSw
        try dsimp only at hSw
        go_simp
        first
          | done
          | with_reducible rfl
          | rw [if_neg (by omega)]
      try simp only [Act.put, List.setIfInBounds_toArray, List.set_cons_zero, List.set_cons_succ]
      refine wpAnyH_take (i := 5) (oi := { dst := some 41, op := Op.move (Operand.tmp 8), type := 9, pos := "source.go:269", after := #[], guard := none }) (v := ?_) rfl (by kernel_rfl) (by kernel_rfl) (by kernel_rfl) (fun _ _ _ h => h) (Or.inl ⟨by rfl, ?_⟩) (HGd.out.c0) ?_
      rotate_left 1
      · intro w hSw
        try dsimp only at hSw
        go_simp
        first
          | done
          | with_reducible rfl
          | rw [if_neg (by omega)]
      try simp only [Act.put, List.setIfInBounds_toArray, List.set_cons_zero, List.set_cons_succ]
      refine wpAnyH_take (i := 8) (oi := { dst := some 44, op := Op.move (Operand.tmp 3), type := 45, pos := "source.go:269", after := #[], guard := none }) (v := ?_) rfl (by kernel_rfl) (by kernel_rfl) (by kernel_rfl) (fun _ _ _ h => h) (Or.inl ⟨by rfl, ?_⟩) (HGd.out.c0) ?_
      rotate_left 1
      · intro w hSw
        try dsimp only at hSw
        go_simp
        first
          | done
          | with_reducible rfl
          | rw [if_neg (by omega)]
      try simp only [Act.put, List.setIfInBounds_toArray, List.set_cons_zero, List.set_cons_succ]
      refine wpAnyH_take (i := 9) (oi := { dst := some 45, op := Op.move (Operand.tmp 3), type := 45, pos := "source.go:269", after := #[], guard := none }) (v := ?_) rfl (by kernel_rfl) (by kernel_rfl) (by kernel_rfl) (fun _ _ _ h => h) (Or.inl ⟨by rfl, ?_⟩) (HGd.out.c0) ?_
      rotate_left 1
      · intro w hSw
        try dsimp only at hSw
        go_simp
        first
          | done
          | with_reducible rfl
          | rw [if_neg (by omega)]
      try simp only [Act.put, List.setIfInBounds_toArray, List.set_cons_zero, List.set_cons_succ]
      refine wpAnyH_take (i := 10) (oi := { dst := some 46, op := Op.nilCheck (Operand.tmp 45), type := 0, pos := "source.go:269", after := #[{ on := 9, ground := Ground.data }], guard := none }) (v := ?_) rfl (by kernel_rfl) (by kernel_rfl) (by kernel_rfl) (fun _ _ _ h => h) (Or.inl ⟨by rfl, ?_⟩) (HGd.out.c0) ?_
      rotate_left 1
      · intro w hSw
        try dsimp only at hSw
        go_simp
        first
          | done
          | with_reducible rfl
          | rw [if_neg (by omega)]
      try simp only [Act.put, List.setIfInBounds_toArray, List.set_cons_zero, List.set_cons_succ]
      refine wpAnyH_take (i := 11) (oi := { dst := some 47, op := Op.fieldAddr 47 (Operand.tmp 46) 0, type := 0, pos := "source.go:269", after := #[{ on := 10, ground := Ground.data }], guard := none }) (v := ?_) rfl (by kernel_rfl) (by kernel_rfl) (by kernel_rfl) (fun _ _ _ h => h) (Or.inl ⟨by rfl, ?_⟩) (HGd.out.c0) ?_
      rotate_left 1
      · intro w hSw
        try dsimp only at hSw
        go_simp
        first
          | done
          | with_reducible rfl
          | rw [if_neg (by omega)]
      try simp only [Act.put, List.setIfInBounds_toArray, List.set_cons_zero, List.set_cons_succ]
      refine wpAnyH_take (i := 12) (oi := { dst := some 48, op := Op.load 40 (Operand.tmp 47), type := 40, pos := "source.go:269", after := #[{ on := 11, ground := Ground.data }], guard := none }) (v := ?_) rfl (by kernel_rfl) (by kernel_rfl) (by kernel_rfl) (fun _ _ _ h => h) (Or.inl ⟨by rfl, ?_⟩) (HGd.out.c0) ?_
      rotate_left 1
      · intro w hSw
        try dsimp only at hSw
        go_simp
        first
          | done
          | with_reducible rfl
          | rw [if_neg (by omega)]
      try simp only [Act.put, List.setIfInBounds_toArray, List.set_cons_zero, List.set_cons_succ]
      refine wpAnyH_ready (rs := [2]) (by kernel_rfl) (by simp) ?_
      refine AllReadyH.cons (o := { dst := some 38, op := Op.call { callee := Callee.value (Operand.func 13), args := #[Operand.tmp 37], argTypes := #[3] }, type := 9, pos := "source.go:269", after := #[{ on := 1, ground := Ground.data }], guard := none }) rfl (fun K hK => ?_) (AllReadyH.nil)
      go_simp
      go_at_call 13
      refine (gdig _ j rfl (by omega) _).mono ?_
      rintro e w50 ⟨rfl, rfl⟩
      try dsimp only
      have hdj := digS_size j
      refine hK.out _ _ (HGd.out.c0) (fun _ => ?_)
      clear hK K
      try simp only [Act.put, List.setIfInBounds_toArray, List.set_cons_zero, List.set_cons_succ]
      refine wpAnyH_take (i := 3) (oi := { dst := some 39, op := Op.binOp BinOp.add 9 (Operand.const (Value.string { data := #[102] })) (Operand.tmp 38) 9, type := 9, pos := "source.go:269", after := #[{ on := 2, ground := Ground.data }], guard := none }) (v := ?_) rfl (by kernel_rfl) (by kernel_rfl) (by kernel_rfl) (fun _ _ _ h => h) (Or.inl ⟨by rfl, ?_⟩) (HGd.out.c0) ?_
      rotate_left 1
      · intro w hSw
        try dsimp only at hSw
        go_simp
        first
          | done
          | with_reducible rfl
          | rw [if_neg (by omega)]
      try simp only [Act.put, List.setIfInBounds_toArray, List.set_cons_zero, List.set_cons_succ]
      refine wpAnyH_take (i := 4) (oi := { dst := some 40, op := Op.binOp BinOp.add 9 (Operand.tmp 39) (Operand.const (Value.string { data := #[40] })) 9, type := 9, pos := "source.go:269", after := #[{ on := 3, ground := Ground.data }], guard := none }) (v := ?_) rfl (by kernel_rfl) (by kernel_rfl) (by kernel_rfl) (fun _ _ _ h => h) (Or.inl ⟨by rfl, ?_⟩) (HGd.out.c0) ?_
      rotate_left 1
      · intro w hSw
        try dsimp only at hSw
        go_simp
        first
          | done
          | with_reducible rfl
          | rw [if_neg (by omega)]
      try simp only [Act.put, List.setIfInBounds_toArray, List.set_cons_zero, List.set_cons_succ]
      refine wpAnyH_take (i := 6) (oi := { dst := some 42, op := Op.binOp BinOp.add 9 (Operand.tmp 40) (Operand.tmp 41) 9, type := 9, pos := "source.go:269", after := #[{ on := 4, ground := Ground.data }, { on := 5, ground := Ground.data }], guard := none }) (v := ?_) rfl (by kernel_rfl) (by kernel_rfl) (by kernel_rfl) (fun _ _ _ h => h) (Or.inl ⟨by rfl, ?_⟩) (HGd.out.c0) ?_
      rotate_left 1
      · intro w hSw
        try dsimp only at hSw
        go_simp
        first
          | done
          | with_reducible rfl
          | rw [if_neg (by omega)]
      try simp only [Act.put, List.setIfInBounds_toArray, List.set_cons_zero, List.set_cons_succ]
      refine wpAnyH_take (i := 7) (oi := { dst := some 43, op := Op.binOp BinOp.add 9 (Operand.tmp 42) (Operand.const (Value.string { data := #[41, 32, 61, 32] })) 9, type := 9, pos := "source.go:269", after := #[{ on := 6, ground := Ground.data }], guard := none }) (v := ?_) rfl (by kernel_rfl) (by kernel_rfl) (by kernel_rfl) (fun _ _ _ h => h) (Or.inl ⟨by rfl, ?_⟩) (HGd.out.c0) ?_
      rotate_left 1
      · intro w hSw
        try dsimp only at hSw
        go_simp
        first
          | done
          | with_reducible rfl
          | rw [if_neg (by omega)]
      try simp only [Act.put, List.setIfInBounds_toArray, List.set_cons_zero, List.set_cons_succ]
      refine wpAnyH_ready (rs := [13]) (by kernel_rfl) (by simp) ?_
      refine AllReadyH.cons (o := { dst := some 49, op := Op.call { callee := Callee.value (Operand.func 14), args := #[Operand.tmp 48, Operand.const (Value.int IntKind.i64 6)], argTypes := #[40, 3] }, type := 3, pos := "source.go:269", after := #[{ on := 12, ground := Ground.data }, { on := 2, ground := Ground.chain }], guard := none }) rfl (fun K hK => ?_) (AllReadyH.nil)
      go_simp
      go_at_call 14
      refine (gnext 6 6 rfl (by decide) (by decide) HGd.out HN.out).mono ?_
      rintro e w51 ⟨r51, hr51, rfl, hG51, hK51⟩
      have HG51 := Lib.hid hG51
      have HK51 := Lib.hid (HKd.out.trans hK51)
      clear hG51 hK51
      try dsimp only
      have hx51 : (0 : Int) ≤ (r51 : Int) := by omega
      have hy51 : (r51 : Int) < 6 := by omega
      have hd51 := digS_size r51
      refine hK.out _ _ (HG51.out.c0) (fun _ => ?_)
      clear hK K
      try simp only [Act.put, List.setIfInBounds_toArray, List.set_cons_zero, List.set_cons_succ]
      refine wpAnyH_ready (rs := [14]) (by kernel_rfl) (by simp) ?_
      refine AllReadyH.cons (o := { dst := some 50, op := Op.call { callee := Callee.value (Operand.func 17), args := #[Operand.tmp 44, Operand.tmp 49, Operand.const (Value.int IntKind.i64 2)], argTypes := #[45, 3, 3] }, type := 9, pos := "source.go:269", after := #[{ on := 8, ground := Ground.data }, { on := 13, ground := Ground.data }, { on := 13, ground := Ground.chain }], guard := none }) rfl (fun K hK => ?_) (AllReadyH.nil)
      go_simp
      go_at_call 17
      refine (HE.out _ _ _ _ _ _ HG51.out HN.out (by omega)).mono ?_
      rintro e w52 ⟨s52, f52, rfl, hs52, hf52, hg52, hG52, hK52⟩
      have HG52 := Lib.hid hG52
      have HK52 := Lib.hid (HK51.out.trans hK52)
      clear hG52 hK52
      try dsimp only
      have hb52 : s52.size ≤ 500 := by omega
      refine hK.out _ _ (HG52.out.c0) (fun _ => ?_)
      clear hK K
      try simp only [Act.put, List.setIfInBounds_toArray, List.set_cons_zero, List.set_cons_succ]
      refine wpAnyH_take (i := 15) (oi := { dst := some 51, op := Op.binOp BinOp.add 9 (Operand.tmp 43) (Operand.tmp 50) 9, type := 9, pos := "source.go:269", after := #[{ on := 7, ground := Ground.data }, { on := 14, ground := Ground.data }], guard := none }) (v := ?_) rfl (by kernel_rfl) (by kernel_rfl) (by kernel_rfl) (fun _ _ _ h => h) (Or.inl ⟨by rfl, ?_⟩) (HG52.out.c0) ?_
      rotate_left 1
      · intro w hSw
        try dsimp only at hSw
        go_simp
        first
          | done
          | with_reducible rfl
          | rw [if_neg (by omega)]
      try simp only [Act.put, List.setIfInBounds_toArray, List.set_cons_zero, List.set_cons_succ]
      refine wpAnyH_take (i := 16) (oi := { dst := some 52, op := Op.binOp BinOp.add 9 (Operand.tmp 51) (Operand.const (Value.string { data := #[10] })) 9, type := 9, pos := "source.go:269", after := #[{ on := 15, ground := Ground.data }], guard := none }) (v := ?_) rfl (by kernel_rfl) (by kernel_rfl) (by kernel_rfl) (fun _ _ _ h => h) (Or.inl ⟨by rfl, ?_⟩) (HG52.out.c0) ?_
      rotate_left 1
      · intro w hSw
        try dsimp only at hSw
        go_simp
        first
          | done
          | with_reducible rfl
          | rw [if_neg (by omega)]
      try simp only [Act.put, List.setIfInBounds_toArray, List.set_cons_zero, List.set_cons_succ]
      refine wpAnyH_take (i := 17) (oi := { dst := some 53, op := Op.binOp BinOp.add 9 (Operand.tmp 36) (Operand.tmp 52) 9, type := 9, pos := "source.go:269", after := #[{ on := 0, ground := Ground.data }, { on := 16, ground := Ground.data }], guard := none }) (v := ?_) rfl (by kernel_rfl) (by kernel_rfl) (by kernel_rfl) (fun _ _ _ h => h) (Or.inl ⟨by rfl, ?_⟩) (HG52.out.c0) ?_
      rotate_left 1
      · intro w hSw
        try dsimp only at hSw
        go_simp
        first
          | done
          | with_reducible rfl
          | rw [if_neg (by omega)]
      try simp only [Act.put, List.setIfInBounds_toArray, List.set_cons_zero, List.set_cons_succ]
      refine wpAnyH_take (i := 18) (oi := { dst := some 4, op := Op.assign (Operand.tmp 53), type := 9, pos := "source.go:269", after := #[{ on := 17, ground := Ground.data }, { on := 14, ground := Ground.chain }, { on := 0, ground := Ground.phase }, { on := 1, ground := Ground.phase }, { on := 2, ground := Ground.phase }, { on := 3, ground := Ground.phase }, { on := 4, ground := Ground.phase }, { on := 5, ground := Ground.phase }, { on := 6, ground := Ground.phase }, { on := 7, ground := Ground.phase }, { on := 8, ground := Ground.phase }, { on := 9, ground := Ground.phase }, { on := 10, ground := Ground.phase }, { on := 11, ground := Ground.phase }, { on := 12, ground := Ground.phase }, { on := 13, ground := Ground.phase }, { on := 14, ground := Ground.phase }, { on := 15, ground := Ground.phase }, { on := 16, ground := Ground.phase }, { on := 17, ground := Ground.phase }], guard := none }) (v := ?_) rfl (by kernel_rfl) (by kernel_rfl) (by kernel_rfl) (fun _ _ _ h => h) (Or.inl ⟨by rfl, ?_⟩) (HG52.out.c0) ?_
      rotate_left 1
      · intro w hSw
        try dsimp only at hSw
        go_simp
        first
          | done
          | with_reducible rfl
          | rw [if_neg (by omega)]
      try simp only [Act.put, List.setIfInBounds_toArray, List.set_cons_zero, List.set_cons_succ]
      refine wpAnyH_done (by kernel_rfl) ?_ _
      refine NoPanic.normal ?_
      go_wp2_with fail
      refine (greset 0 HG52.out (by omega)).mono ?_
      rintro e w90 ⟨rfl, hG90, hK90⟩
      have HG90 := Lib.hid hG90
      have HK90 := Lib.hid (HK52.out.trans hK90)
      clear hG90 hK90
      have c90 := HG90.out.c0
      go_wp2_with fail
      go_roundw
      case rel => exact ⟨_, j + 1, f52, rfl, by go_num, by omega, by (try simp [ByteArray.size_append, size_lit]); omega, by omega, HG90, HK90⟩
      case measure => (try simp [intOf]); omega
    · have hlt2 : ¬ (j : Int) < 1 + (r1 : Int) := by omega
      clear hlt
      go_wp2_with fail
      go_loopw [4, 9] (fun s i wr => ∃ (st : ByteArray) (j fr : Nat), s = .string st ∧ i = .int .i64 j ∧ j ≤ 2 ∧ st.size ≤ 800 + j * 350 ∧ fr ≤ 10 + j * 6 ∧ Hid (GSt wr Pr X 0 fr) ∧ Hid (Keep Pr w wr)) (fun _ i _ => 3 - (intOf i).toNat)
      case atStart => exact ⟨_, 0, fr, rfl, rfl, by omega, by omega, by omega, HG1, HK1⟩
      case round =>
        clear hst hfr hj hlt2 hw1 hkf c0
        obtain ⟨st, j, fr, rfl, rfl, hj, hst, hfr, HG, HK⟩ := hrel
        have hkf := HG.out.kf
        have c0 := HG.out.c0
        have c3 : wr.cell? ⟨X.wb, 3, none⟩ = some (.int .i64 2) := by have := HG.out.c3; rw [HF.out] at this; exact this
        by_cases hlt : j < 2
        · have hlt2 : (j : Int) < 2 := by omega
          clear hlt
          go_wp2_with fail
          refine (gdig _ j rfl (by omega) _).mono ?_
          rintro e w5 ⟨rfl, rfl⟩
          have hdj := digS_size j
          go_wp2_with fail
          refine (gevent HG.out HN.out).mono ?_
          rintro e w30 ⟨s30, f30, rfl, hs30, hf30, hg30, hG30, hK30⟩
          have HG30 := Lib.hid hG30
          have HK30 := Lib.hid (HK.out.trans hK30)
          clear hG30 hK30
          have c30 := HG30.out.c0
          go_wp2_with fail
          refine (HP.out _ _ _ _ _ HG30.out HN.out HF.out (by omega)).mono ?_
          rintro e w31 ⟨s31, f31, rfl, hs31, hf31, hg31, hG31, hK31⟩
          have hb31 : s31.size ≤ 500 := by omega
          have HG31 := Lib.hid hG31
          have HK31 := Lib.hid (HK30.out.trans hK31)
          clear hG31 hK31
          have c31 := HG31.out.c0
          go_wp2_with fail
          go_roundw
          case rel => exact ⟨_, j + 1, f31, rfl, by go_num, by omega, by (try simp [ByteArray.size_append, size_lit]); omega, by omega, HG31, HK31⟩
          case measure => (try simp [intOf]); omega
        · have hlt2 : ¬ (j : Int) < 2 := by omega
          clear hlt
          go_wp2_with fail
          refine (gmark HG.out).mono ?_
          rintro e w40 ⟨rfl, rfl⟩
          go_wp2_with fail
          refine (gbind _ HG.out (by omega)).mono ?_
          rintro e w41 ⟨s41, rfl, hb41, hG41, hK41⟩
          have HG41 := Lib.hid hG41
          have HK41 := Lib.hid (HK.out.trans hK41)
          clear hG41 hK41
          have c41 := HG41.out.c0
          go_wp2_with fail
          refine (HP1.out _ _ _ _ _ HG41.out HN.out HF.out (by omega)).mono ?_
          rintro e w42 ⟨s42, f42, rfl, hs42, hf42, hg42, hG42, hK42⟩
          have hb42 : s42.size ≤ 500 := by omega
          have HG42 := Lib.hid hG42
          have HK42 := Lib.hid (HK41.out.trans hK42)
          clear hG42 hK42
          have c42 := HG42.out.c0
          go_wp2_with fail
          refine (greset 0 HG42.out (by omega)).mono ?_
          rintro e w43 ⟨rfl, hG43, hK43⟩
          have HG43 := Lib.hid hG43
          have HK43 := Lib.hid (HK42.out.trans hK43)
          clear hG43 hK43
          have c43 := HG43.out.c0
          go_wp2_with fail
          go_ret
          refine ⟨_, rfl, by (try simp [ByteArray.size_append, size_lit]); omega, ?_⟩
          have hq := HK43.out
          rw [← hPr] at hq
          exact hq.to_below

end Go.Proofs.YtkjjagmpnnnimaaGreatDoor

namespace Go.Proofs.YtkjjagmpnnnimaaGreatDoor
open Go.RowKit M

theorem col_snoc (c : Int) (cols : List Int) : colCells cols ++ [Value.int .i64 c] = colCells (c :: cols) := by simp [colCells]
theorem col_len (cols : List Int) : (colCells cols).length = cols.length := by simp [colCells]
theorem col_last (x : Int) (r : List Int) : (colCells (x :: r))[r.length]? = some (.int .i64 x) := by
  rw [← col_snoc, List.getElem?_append_right (by rw [col_len]; exact Nat.le_refl _), col_len, Nat.sub_self]; rfl
theorem col_take (x : Int) (r : List Int) : (colCells (x :: r)).take (r.length * 1) = colCells r := by
  rw [← col_snoc, Nat.mul_one, List.take_append_of_le_length (by rw [col_len]; exact Nat.le_refl _), List.take_of_length_le (by rw [col_len]; exact Nat.le_refl _)]

/-- what is left behind b.columns = append(b.columns, c) -/
theorem pushc_end {w w1 : World} {Pr : Nat → Prop} {g : Nat} {s : LSt} {vt vc : Value} (hD : BAt w Pr g s vt vc) (c : Int) {gg cap : Nat}
    (hown1 : w1.ownsRow 0 3 1 (.slice (some ⟨gg, 0, none⟩) (s.cols.length + 1) cap) (s.cols.length + 1) (colCells s.cols ++ [.int .i64 c]))
    (hgrow : w.grownBy w1 vc.ownBlock) (hat : vc.ownBlock = some gg ∨ w.heap.size ≤ gg) :
    BSt (w1.setCell ⟨g, 1, none⟩ (.slice (some ⟨gg, 0, none⟩) (s.cols.length + 1) cap)) Pr g { s with cols := c :: s.cols } ∧
      Keep Pr w (w1.setCell ⟨g, 1, none⟩ (.slice (some ⟨gg, 0, none⟩) (s.cols.length + 1) cap)) := by
  refine ⟨⟨vt, .slice (some ⟨gg, 0, none⟩) (s.cols.length + 1) cap, ?_⟩, ?_⟩
  · have hb1 := hD.blk.grown hgrow (Ne.symm hD.gc)
    have ht1 := owns_other hD.rt hgrow (fun k hk q => hD.tc k hk q)
    have hne : (Value.slice (some ⟨gg, 0, none⟩) (s.cols.length + 1) cap).ownBlock ≠ some g := own_blk_ne hown1 hb1 (by decide)
    have htg : vt.ownBlock ≠ some g := own_blk_ne ht1 hb1 (by decide)
    refine ⟨hb1.set_ 1 _, owns_set ht1 htg _, ?_, hD.ng, hD.nt, ?_, ?_⟩
    · show World.ownsRow _ _ _ _ _ (c :: s.cols).length (colCells (c :: s.cols))
      rw [List.length_cons, ← col_snoc]
      exact owns_set hown1 hne _
    · intro k hk hp
      have hkg : gg = k := by simpa [Value.ownBlock] using hk
      subst hkg
      rcases hat with q | q
      · exact hD.nc _ q hp
      · have := hD.lt _ hp; omega
    · intro k hk
      have := hD.lt k hk
      have h1 := hgrow.size
      simp [World.setCell] at h1 ⊢
      omega
  · exact ((Keep.refl Pr w).grown hgrow hD.lt hD.nc).setCell (p := ⟨g, 1, none⟩) hD.ng _
/-- what is left behind b.columns = b.columns[:len(b.columns)-1] -/
theorem popc_end {w : World} {Pr : Nat → Prop} {g : Nat} {s : LSt} {vt : Value} {gc cap : Nat} {x : Int} {r : List Int} (hc : s.cols = x :: r)
    (hD : BAt w Pr g s vt (.slice (some ⟨gc, 0, none⟩) (r.length + 1) cap)) :
    BSt (w.setCell ⟨g, 1, none⟩ (.slice (some ⟨gc, 0, none⟩) r.length cap)) Pr g { s with cols := r } ∧ Keep Pr w (w.setCell ⟨g, 1, none⟩ (.slice (some ⟨gc, 0, none⟩) r.length cap)) := by
  have hrc := hD.rc
  rw [hc] at hrc
  have h1 := owns_take hrc r.length (by simp)
  rw [col_take] at h1
  have hg : (Value.slice (some ⟨gc, 0, none⟩) r.length cap).ownBlock ≠ some g := hD.gc
  refine ⟨⟨vt, .slice (some ⟨gc, 0, none⟩) r.length cap, ?_⟩, (Keep.refl Pr w).setCell (p := ⟨g, 1, none⟩) hD.ng _⟩
  exact ⟨hD.blk.set_ 1 _, owns_set hD.rt hD.gt _, owns_set h1 hg _, hD.ng, hD.nt, hD.nc, fun k hk => by have := hD.lt k hk; simpa [World.setCell] using this⟩
theorem BSt.mono {w : World} {Pr Pr' : Nat → Prop} {g : Nat} {s : LSt} (h : BSt w Pr g s) (hp : ∀ k, Pr' k → Pr k) : BSt w Pr' g s := by
  obtain ⟨vt, vc, h⟩ := h
  exact ⟨vt, vc, h.mono hp⟩
theorem BSt.more {w : World} {Pr : Nat → Prop} {g : Nat} {s : LSt} (h : BSt w Pr g s) (o : Obj) : BSt (w.alloc o) (fun k => Pr k ∨ k = w.heap.size) g s := by
  obtain ⟨vt, vc, h⟩ := h
  exact ⟨vt, vc, h.more o⟩
theorem BSt.alloc {w : World} {Pr : Nat → Prop} {g : Nat} {s : LSt} (h : BSt w Pr g s) (o : Obj) : BSt (w.alloc o) Pr g s := by
  obtain ⟨vt, vc, h⟩ := h
  exact ⟨vt, vc, h.alloc o⟩
theorem BSt.drewN {w : World} {Pr : Nat → Prop} {g : Nat} {s : LSt} (h : BSt w Pr g s) (n : Nat) : BSt (w.drewN n) Pr g s := by
  obtain ⟨vt, vc, h⟩ := h
  exact ⟨vt, vc, h.drewN n⟩
theorem BSt.lt {w : World} {Pr : Nat → Prop} {g : Nat} {s : LSt} (h : BSt w Pr g s) : ∀ k, Pr k → k < w.heap.size := by
  obtain ⟨vt, vc, h⟩ := h
  exact h.lt
/-- the columns' slice where a block is open -/
theorem BAt.cform {w : World} {Pr : Nat → Prop} {g : Nat} {s : LSt} {vt vc : Value} (hD : BAt w Pr g s vt vc) {x : Int} {r : List Int} (hc : s.cols = x :: r) :
    ∃ gc cap, vc = .slice (some ⟨gc, 0, none⟩) (r.length + 1) cap ∧ r.length + 1 ≤ cap ∧ cap ≤ maxLen ∧ w.cell? ⟨gc, r.length, none⟩ = some (.int .i64 x) := by
  have hrc := hD.rc
  rw [hc] at hrc
  have hrc' := hrc
  obtain ⟨_, h⟩ := hrc'
  rcases h with ⟨_, q⟩ | ⟨gc, cap, cur, rfl, _, _, h1, h2, _, _⟩
  · simp at q
  · obtain ⟨g', c', e, _, _, _, hcell⟩ := owns_cell hrc (by simp)
    injection e with e1 e2 e3
    injection e1 with e1
    injection e1 with e1
    subst e1 e3
    exact ⟨_, _, rfl, h1, h2, hcell r.length _ (col_last x r)⟩

set_option maxRecDepth 100000 in
set_option maxHeartbeats 3200000 in
theorem open_any (w : World) (Pr : Nat → Prop) (g : Nat) (s : LSt) (a b : Int) (h : BSt w Pr g s) (hn : s.out.length ≤ 1000000000) (hm : s.cols.length ≤ 1000000000) :
    Calls Tryz.prog 56 #[.pointer (some ⟨g, 0, none⟩), posV a b] w (BPost w Pr g { s with out := s.out ++ [mkT 5 (a, b)], cols := b :: s.cols }) := by
  have HI := Lib.hid (insert_any _ _ g s 5 a b (h.more (.cells #[.int .i64 a, .int .i64 b] 25)) hn)
  have HL := Lib.hid h.lt
  clear h hn
  go_enter Tryz.func56, Tryz.ntmps56
  go_wp2_with fail
  refine HI.out.mono ?_
  rintro e w1 ⟨rfl, ⟨vt, vc, hB⟩, hK⟩
  obtain ⟨A1, c1, rfl⟩ := owns_form hB.rc
  obtain ⟨i0, hi0, hz0, hz1, hz2⟩ := info_parts int_info
  have k0 : w1.cell? ⟨g, 1, none⟩ = some (.slice A1 s.cols.length c1) := hB.blk.cell 1
  have k1 : w1.cell? ⟨w.heap.size, 1, none⟩ = some (.int .i64 b) := (hK.cell (.inr rfl) 1).trans (cell_of_row _ _ 1 _ _ _ (heap_alloc_new w _))
  have hg : g < w1.heap.size := hB.blk.lt
  have hsz : w.heap.size < w1.heap.size := hB.lt _ (.inr rfl)
  have ag := hB.gc
  have HB := Lib.hid hB
  have HK := Lib.hid hK
  clear hB hK HI
  go_wp2_with fail
  go_region_law
    ((refine step_append_lies _ (by rfl) _ _ _ (by rfl) 0 3 i0 _ 1 8 Tryz.underlying22 hi0 hz0 hz1 hz2 rfl (by omega) (.slice A1 s.cols.length c1) s.cols.length (colCells s.cols) (by rfl) ((HB.out.rc.alloc _).drew)
        ⟨w1.heap.size, 0, none⟩ 1 1 [.int .i64 b] (by rfl) (by rfl) (World.news_of_block (cs := #[.int .i64 b]) (t := 3) (fr := (0, 0)) (heap_alloc_new w1 _)) (by simp [Value.oneCell'])
        (by omega) (by unfold maxLen; omega) (by omega) (by simp) (w1.heap.size + 1) (by simp) ?_; intro gg cap w2 hown1 hgrow hat hlt; have hfz : w2.frozen? ⟨g, 1, none⟩ = false := (hgrow.frozen_far ⟨g, 1, none⟩ (by simp; omega) (Ne.symm ag)).trans (((HB.out.alloc _).drew).blk.frozen 1); have hcz : w2.cell? ⟨g, 1, none⟩ = some (.slice A1 s.cols.length c1) := (hgrow.cell_far ⟨g, 1, none⟩ (by simp; omega) (Ne.symm ag)).trans (((HB.out.alloc _).drew).blk.cell 1)))
  all_goals
    go_wp2
    go_end0
    have hE := pushc_end (HB.out.alloc (.cells #[.int .i64 b] 3)).drew b hown1 hgrow (hat.imp id (fun q => by simp; omega))
    refine ⟨rfl, hE.1.mono fun k hk => .inl hk, ?_⟩
    have h1 : Keep Pr w (w.alloc (.cells #[.int .i64 a, .int .i64 b] 25)) := (Keep.refl Pr w).alloc HL.out _
    have h2 := (((HK.out).alloc (fun k hk => by rcases hk with q | q; (have := HL.out k q; simp; omega); (simp; omega)) (.cells #[.int .i64 b] 3)).drew.trans hE.2).mono (Pr' := Pr) fun k hk => .inl hk
    exact h1.trans h2

set_option maxRecDepth 100000 in
set_option maxHeartbeats 3200000 in
theorem close_any (w : World) (Pr : Nat → Prop) (g : Nat) (s : LSt) (a b x : Int) (r : List Int) (h : BSt w Pr g s) (hc : s.cols = x :: r) (hn : s.out.length ≤ 1000000000) (hm : r.length ≤ 1000000000) :
    Calls Tryz.prog 48 #[.pointer (some ⟨g, 0, none⟩), posV a b] w (BPost w Pr g { s with out := s.out ++ [mkT 7 (a, b)], cols := r }) := by
  have HI := Lib.hid (insert_any _ _ g s 7 a b (h.more (.cells #[.int .i64 a, .int .i64 b] 25)) hn)
  have HL := Lib.hid h.lt
  have HC := Lib.hid hc
  clear h hn hc
  go_enter Tryz.func48, Tryz.ntmps48
  go_wp2_with fail
  refine HI.out.mono ?_
  rintro e w1 ⟨rfl, ⟨vt, vc, hB⟩, hK⟩
  obtain ⟨gc, cap, rfl, hcap, hmax, hcell⟩ := hB.cform HC.out
  unfold maxLen at hmax
  have k0 : w1.cell? ⟨g, 1, none⟩ = some (.slice (some ⟨gc, 0, none⟩) (r.length + 1 : Nat) cap) := hB.blk.cell 1
  have k1 : w1.frozen? ⟨g, 1, none⟩ = false := hB.blk.frozen 1
  have HB := Lib.hid hB
  have HK := Lib.hid hK
  clear hB hK HI hcell
  go_wp2_with fail
  go_region
  all_goals
    go_wp2
    go_end0
    have hE := popc_end (s := { s with out := s.out ++ [mkT 7 (a, b)] }) HC.out HB.out.drew
    refine ⟨rfl, hE.1.mono fun k hk => .inl hk, ?_⟩
    have h1 : Keep Pr w (w.alloc (.cells #[.int .i64 a, .int .i64 b] 25)) := (Keep.refl Pr w).alloc HL.out _
    exact h1.trans ((HK.out.drew.trans hE.2).mono (Pr' := Pr) fun k hk => .inl hk)

set_option maxRecDepth 100000 in
set_option maxHeartbeats 3200000 in
theorem column_any (w : World) (Pr : Nat → Prop) (g : Nat) (s : LSt) (x : Int) (r : List Int) (h : BSt w Pr g s) (hc : s.cols = x :: r) (hm : r.length ≤ 1000000000) :
    Calls Tryz.prog 68 #[.pointer (some ⟨g, 0, none⟩)] w fun e w' => e = .returned (.int .i64 x) ∧ ∃ m, w' = w.drewN m := by
  obtain ⟨vt, vc, hB⟩ := h
  obtain ⟨gc, cap, rfl, hcap, hmax, hcell⟩ := hB.cform hc
  unfold maxLen at hmax
  have k0 : w.cell? ⟨g, 1, none⟩ = some (.slice (some ⟨gc, 0, none⟩) (r.length + 1 : Nat) cap) := hB.blk.cell 1
  clear hB hc
  have h0 : (0 : Int) ≤ (r.length : Int) := Int.natCast_nonneg _
  go_enter Tryz.func68, Tryz.ntmps68
  go_wp2_with fail
  go_quiet (fail)
  go_wp2
  go_ret
  exact ⟨rfl, _, rfl⟩

end Go.Proofs.YtkjjagmpnnnimaaGreatDoor

namespace Go.Proofs.YtkjjagmpnnnimaaGreatDoor
open Go.RowKit M

/-- a token's value -/
abbrev tkV (t : TR) (a b : Int) : Value := .agg #[.int .i64 t.kind, .int .i64 t.num, .string (S t.str), .int .i64 a, .int .i64 b]
theorem beqEq (l k : Bs) : (l == k) = decide (l = k) := by
  by_cases h : l = k
  · rw [decide_eq_true h]; exact beq_iff_eq.2 h
  · rw [decide_eq_false h]; exact beq_eq_false_iff_ne.2 h

set_option maxHeartbeats 2000000 in
theorem closer_any (w : World) (t : TR) (a b : Int) :
    Calls Tryz.prog 67 #[tkV t a b] w fun e w' => e = .returned (.bool (closB t)) ∧ Below w.heap.size w w' := by
  obtain ⟨kd, nu, st, er⟩ := t
  show Calls _ _ #[.agg #[.int .i64 kd, .int .i64 nu, .string (S st), .int .i64 a, .int .i64 b]] _ fun e w' => e = .returned (.bool (decide (kd = 3) && (decide (st = kwWithin) || decide (st = kwExports) || decide (st = kwEndmodule) || decide (st = kwEndtimed)))) ∧ Below w.heap.size w w'
  rw [← beqEq, ← beqEq, ← beqEq, ← beqEq]
  unfold kwWithin kwExports kwEndmodule kwEndtimed
  by_cases hk : kd = 3
  · have g0 : (kd != 3) = false := by simp [hk]
    rw [decide_eq_true hk]
    clear hk
    cases d1 : (st == [119, 105, 116, 104, 105, 110])
    · cases d2 : (st == [101, 120, 112, 111, 114, 116, 115])
      · cases d3 : (st == [101, 110, 100, 109, 111, 100, 117, 108, 101])
        · cases d4 : (st == [101, 110, 100, 116, 105, 109, 101, 100])
          all_goals
            go_enter Tryz.func67, Tryz.ntmps67
            go_wp2
            go_ret
            exact ⟨rfl, (Below.refl _ _).alloc (Nat.le_refl _) _⟩
        · go_enter Tryz.func67, Tryz.ntmps67
          go_wp2
          go_ret
          exact ⟨rfl, (Below.refl _ _).alloc (Nat.le_refl _) _⟩
      · go_enter Tryz.func67, Tryz.ntmps67
        go_wp2
        go_ret
        exact ⟨rfl, (Below.refl _ _).alloc (Nat.le_refl _) _⟩
    · go_enter Tryz.func67, Tryz.ntmps67
      go_wp2
      go_ret
      exact ⟨rfl, (Below.refl _ _).alloc (Nat.le_refl _) _⟩
  · have g0 : (kd != 3) = true := by simp [hk]
    rw [decide_eq_false hk]
    clear hk
    go_enter Tryz.func67, Tryz.ntmps67
    go_wp2
    go_ret
    exact ⟨rfl, (Below.refl _ _).alloc (Nat.le_refl _) _⟩

set_option maxHeartbeats 1000000 in
theorem after_any (w : World) (p q : Int × Int) :
    Calls Tryz.prog 58 #[posV p.1 p.2, posV q.1 q.2] w fun e w' => e = .returned (.bool (isAft p q)) ∧ Below w.heap.size w w' := by
  obtain ⟨a, b⟩ := p
  obtain ⟨c, d⟩ := q
  go_enter Tryz.func58, Tryz.ntmps58
  go_wp2
  all_goals
    go_ret
    exact ⟨ret_bool (by unfold isAft; rw [Bool.eq_iff_iff]; simp; omega), ((Below.refl _ _).alloc (Nat.le_refl _) _).alloc (by simp) _⟩

theorem BAt.below {w w' : World} {Pr : Nat → Prop} {g : Nat} {s : LSt} {vt vc : Value} (h : BAt w Pr g s vt vc) (hb : Below w.heap.size w w') : BAt w' Pr g s vt vc :=
  ⟨(hb.block _ h.blk.lt).trans h.blk, owns_below h.rt hb, owns_below h.rc hb, h.ng, h.nt, h.nc, fun k hk => Nat.lt_of_lt_of_le (h.lt k hk) hb.size⟩
theorem BSt.below {w w' : World} {Pr : Nat → Prop} {g : Nat} {s : LSt} (h : BSt w Pr g s) (hb : Below w.heap.size w w') : BSt w' Pr g s := by
  obtain ⟨vt, vc, h⟩ := h
  exact ⟨vt, vc, h.below hb⟩
/-- the protected blocks and one more -/
abbrev orOne (Pr : Nat → Prop) (b : Nat) : Nat → Prop := fun k => Pr k ∨ k = b
abbrev tokObj (t : TR) (a b : Int) : Obj := .cells #[.int .i64 t.kind, .int .i64 t.num, .string (S t.str), .int .i64 a, .int .i64 b] 37 (0, 0)
theorem keep_box {w w1 : World} {Pr : Nat → Prop} (hl : ∀ k, Pr k → k < w.heap.size) {o : Obj} (h : Keep (orOne Pr w.heap.size) (w.alloc o) w1) : Keep Pr w w1 :=
  ((Keep.refl Pr w).alloc hl o).trans (h.mono fun _ hk => .inl hk)
theorem box_cell {w w1 : World} {Pr : Nat → Prop} {cs : Array Value} {t : TypeId} (h : Keep (orOne Pr w.heap.size) (w.alloc (.cells cs t)) w1) (i : Nat) : w1.cell? ⟨w.heap.size, i, none⟩ = cs[i]? :=
  (h.cell (.inr rfl) i).trans (cell_of_row _ _ i _ _ _ (heap_alloc_new w _))

def BegPost (w : World) (Pr : Nat → Prop) (g : Nat) (s : LSt) (r : Int × List Tok × List Int) (e : Ending) (w' : World) : Prop :=
  e = .returned (.int .i64 r.1) ∧ BSt w' Pr g { s with out := r.2.1, cols := r.2.2 } ∧ Keep Pr w w'

set_option maxRecDepth 100000 in
set_option maxHeartbeats 3200000 in
theorem begin_any (w : World) (Pr : Nat → Prop) (g : Nat) (s : LSt) (t : TR) (a b x : Int) (r : List Int) (h : BSt w Pr g s) (hc : s.cols = x :: r) (hn : s.out.length ≤ 999999999) (hm : r.length ≤ 999999999) :
    Calls Tryz.prog 60 #[.pointer (some ⟨g, 0, none⟩), tkV t a b] w (BegPost w Pr g s (begL s.out s.cols (t, (a, b)))) := by
  have hB0 := h.more (.cells #[.int .i64 t.kind, .int .i64 t.num, .string (S t.str), .int .i64 a, .int .i64 b] 37)
  have HB0 := Lib.hid hB0
  have HL := Lib.hid h.lt
  have HC := Lib.hid hc
  have HCL := Lib.hid (fun W => closer_any W t a b)
  have hR : Hid (begL s.out s.cols (t, (a, b)) = if closB t = true then (0, s.out ++ [mkT 5 (a, b), mkT 7 (a, b)], s.cols)
      else if b ≤ x then (3, s.out, s.cols) else if r.length + 1 = 64 then (10, s.out, s.cols) else (0, s.out ++ [mkT 5 (a, b)], b :: s.cols)) := by
    unfold Hid begL; rw [hc]; rfl
  generalize begL s.out s.cols (t, (a, b)) = R at *
  generalize closB t = cl at *
  clear h hc hB0
  cases cl
  · rw [if_neg (by decide)] at hR
    have key : ∀ d1 d2 : Bool, decide (b ≤ x) = d1 → decide (((r.length + 1 : Nat) : Int) = 64) = d2 →
        Calls Tryz.prog 60 #[.pointer (some ⟨g, 0, none⟩), tkV t a b] w (BegPost w Pr g s R) := by
      intro d1 d2 hd1 hd2
      have hd3 : ((((r.length + 1 : Nat) : Int)) == 64) = d2 := by rw [← hd2]; rfl
      cases d1
      · have g1 : x < b := by simpa using hd1
        rw [if_neg (by omega)] at hR
        cases d2
        · have g2 : ¬ r.length + 1 = 64 := by intro q; rw [q] at hd2; exact absurd hd2 (by decide)
          rw [if_neg g2] at hR
          clear hd1 hd2 g2
          go_enter Tryz.func60, Tryz.ntmps60
          go_wp2_with fail
          refine (HCL.out _).mono ?_
          rintro e w1 ⟨rfl, hb1⟩
          have HB1 := Lib.hid (HB0.out.below hb1)
          have HK1 : Hid (Keep (orOne Pr w.heap.size) (w.alloc (.cells #[.int .i64 t.kind, .int .i64 t.num, .string (S t.str), .int .i64 a, .int .i64 b] 37)) w1) := Keep.below hb1 HB0.out.lt
          have k3 : w1.cell? ⟨w.heap.size, 3, none⟩ = some (.int .i64 a) := box_cell HK1.out 3
          have k4 : w1.cell? ⟨w.heap.size, 4, none⟩ = some (.int .i64 b) := box_cell HK1.out 4
          have HCO := Lib.hid (fun n => column_any (w1.drewN n) (orOne Pr w.heap.size) g s x r (HB1.out.drewN n) HC.out (by omega))
          obtain ⟨vt, vc, hBA⟩ := HB1.out
          obtain ⟨gc, cap, rfl, _, _, _⟩ := hBA.cform HC.out
          have k5 : w1.cell? ⟨g, 1, none⟩ = some (.slice (some ⟨gc, 0, none⟩) (r.length + 1 : Nat) cap) := hBA.blk.cell 1
          clear hb1 hBA
          go_wp2_with fail
          go_quiet ((go_at_call 68; exact Calls.quiet_of (HCO.out _)))
          go_wp2_with fail
          refine (open_any _ _ g s a b (HB1.out.drewN _) (by omega) (by rw [HC.out]; simp; omega)).mono ?_
          rintro e w2 ⟨rfl, hB2, hK2⟩
          have HB2 := Lib.hid hB2
          have HK2 := Lib.hid hK2
          clear hB2 hK2
          go_wp2
          go_ret
          rw [hR.out]
          exact ⟨rfl, HB2.out.mono (fun k hk => .inl hk), keep_box HL.out ((HK1.out.drewN _).trans HK2.out)⟩
        · have g2 : r.length + 1 = 64 := by have := of_decide_eq_true hd2; omega
          rw [if_pos g2] at hR
          clear hd1 hd2
          go_enter Tryz.func60, Tryz.ntmps60
          go_wp2_with fail
          refine (HCL.out _).mono ?_
          rintro e w1 ⟨rfl, hb1⟩
          have HB1 := Lib.hid (HB0.out.below hb1)
          have HK1 : Hid (Keep (orOne Pr w.heap.size) (w.alloc (.cells #[.int .i64 t.kind, .int .i64 t.num, .string (S t.str), .int .i64 a, .int .i64 b] 37)) w1) := Keep.below hb1 HB0.out.lt
          have k3 : w1.cell? ⟨w.heap.size, 3, none⟩ = some (.int .i64 a) := box_cell HK1.out 3
          have k4 : w1.cell? ⟨w.heap.size, 4, none⟩ = some (.int .i64 b) := box_cell HK1.out 4
          have HCO := Lib.hid (fun n => column_any (w1.drewN n) (orOne Pr w.heap.size) g s x r (HB1.out.drewN n) HC.out (by omega))
          obtain ⟨vt, vc, hBA⟩ := HB1.out
          obtain ⟨gc, cap, rfl, _, _, _⟩ := hBA.cform HC.out
          have k5 : w1.cell? ⟨g, 1, none⟩ = some (.slice (some ⟨gc, 0, none⟩) (r.length + 1 : Nat) cap) := hBA.blk.cell 1
          have HG2 := Lib.hid g2
          clear hb1 hBA g2
          go_wp2_with fail
          go_quiet ((go_at_call 68; exact Calls.quiet_of (HCO.out _)))
          go_wp2
          go_ret
          rw [hR.out]
          exact ⟨rfl, (HB1.out.drewN _).mono (fun k hk => .inl hk), keep_box HL.out (HK1.out.drewN _)⟩
      · have g1 : b ≤ x := of_decide_eq_true hd1
        rw [if_pos g1] at hR
        clear hd1 hd2 hd3
        go_enter Tryz.func60, Tryz.ntmps60
        go_wp2_with fail
        refine (HCL.out _).mono ?_
        rintro e w1 ⟨rfl, hb1⟩
        have HB1 := Lib.hid (HB0.out.below hb1)
        have HK1 : Hid (Keep (orOne Pr w.heap.size) (w.alloc (.cells #[.int .i64 t.kind, .int .i64 t.num, .string (S t.str), .int .i64 a, .int .i64 b] 37)) w1) := Keep.below hb1 HB0.out.lt
        have k3 : w1.cell? ⟨w.heap.size, 3, none⟩ = some (.int .i64 a) := box_cell HK1.out 3
        have k4 : w1.cell? ⟨w.heap.size, 4, none⟩ = some (.int .i64 b) := box_cell HK1.out 4
        have HCO := Lib.hid (fun n => column_any (w1.drewN n) (orOne Pr w.heap.size) g s x r (HB1.out.drewN n) HC.out (by omega))
        clear hb1
        go_wp2_with fail
        go_quiet ((go_at_call 68; exact Calls.quiet_of (HCO.out _)))
        go_wp2
        go_ret
        rw [hR.out]
        exact ⟨rfl, (HB1.out.drewN _).mono (fun k hk => .inl hk), keep_box HL.out (HK1.out.drewN _)⟩
    exact key _ _ rfl rfl
  · rw [if_pos rfl] at hR
    go_enter Tryz.func60, Tryz.ntmps60
    go_wp2_with fail
    refine (HCL.out _).mono ?_
    rintro e w1 ⟨rfl, hb1⟩
    have HB1 := Lib.hid (HB0.out.below hb1)
    have HK1 : Hid (Keep (orOne Pr w.heap.size) (w.alloc (.cells #[.int .i64 t.kind, .int .i64 t.num, .string (S t.str), .int .i64 a, .int .i64 b] 37)) w1) := Keep.below hb1 HB0.out.lt
    have k3 : w1.cell? ⟨w.heap.size, 3, none⟩ = some (.int .i64 a) := box_cell HK1.out 3
    have k4 : w1.cell? ⟨w.heap.size, 4, none⟩ = some (.int .i64 b) := box_cell HK1.out 4
    clear hb1
    go_wp2_with fail
    refine (open_any _ _ g s a b HB1.out (by omega) (by rw [HC.out]; simp; omega)).mono ?_
    rintro e w2 ⟨rfl, hB2, hK2⟩
    have HB2 := Lib.hid hB2
    have HK2 := Lib.hid (HK1.out.trans hK2)
    have k3 : w2.cell? ⟨w.heap.size, 3, none⟩ = some (.int .i64 a) := box_cell HK2.out 3
    have k4 : w2.cell? ⟨w.heap.size, 4, none⟩ = some (.int .i64 b) := box_cell HK2.out 4
    clear hB2 hK2
    go_wp2_with fail
    refine (close_any _ _ g _ a b b s.cols HB2.out rfl (by simp; omega) (by rw [HC.out]; simp; omega)).mono ?_
    rintro e w3 ⟨rfl, hB3, hK3⟩
    have HB3 := Lib.hid hB3
    have HK3 := Lib.hid (HK2.out.trans hK3)
    clear hB3 hK3
    go_wp2
    go_ret
    rw [hR.out]
    refine ⟨rfl, ?_, keep_box HL.out HK3.out⟩
    have := HB3.out.mono (Pr' := Pr) (fun k hk => .inl hk)
    simpa using this

end Go.Proofs.YtkjjagmpnnnimaaGreatDoor
