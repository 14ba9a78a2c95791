/- The writer of sources: processes. Conditions: expr's contract at depth 1; at most 1000 names; two processes. -/
import Derived.Test.YtkjjagmpnnnimaaGreatDoorQ18
namespace Go.Proofs.YtkjjagmpnnnimaaGreatDoor
open Go.RowKit M

/-- process's contract -/
def PCon (dep : Int) (L D : Nat) : Prop := ∀ (w : World) (Pr : Nat → Prop) (X : GC) (k fr : Nat), GSt w Pr X k fr → X.n ≤ maxLen → X.F = 2 → fr + D ≤ 1000 →
  Calls Tryz.prog 20 #[.pointer (some ⟨X.wb, 0, none⟩), .int .i64 dep] w (GPost w Pr X k fr L D)

set_option maxRecDepth 100000 in
set_option maxHeartbeats 12800000 in
theorem gproc0 : PCon 0 12 0 := by
  intro w Pr X k fr h hn hF hf
  have k0 := h.c0
  have hkf := h.kf
  have HS := Lib.hid h
  have HN := Lib.hid hn
  have HF := Lib.hid hF
  have HE0 := Lib.hid gexpr0
  have HK0 : Hid (Keep Pr w w) := Keep.refl Pr w
  clear h hn hF
  go_enter Tryz.func20, Tryz.ntmps20
  go_wp2_with fail
  refine (gnext 16 16 rfl (by decide) (by decide) HS.out HN.out).mono ?_
  rintro e w1 ⟨r1, hr1, rfl, hG1, hK1⟩
  have HG1 := Lib.hid hG1
  have HK1 := Lib.hid (HK0.out.trans hK1)
  clear hG1 hK1
  have c1 := HG1.out.c0
  have hd1 := digS_size r1
  obtain ⟨q, hq, hq4⟩ : ∃ q : Nat, ((r1 : Int).tmod 4) = (q : Int) ∧ q < 4 := ⟨r1 % 4, by rw [Int.tmod_eq_emod_of_nonneg (by omega)]; omega, by omega⟩
  have hc : q = 0 ∨ q = 1 ∨ q = 2 ∨ q = 3 := by omega
  rcases hc with rfl | rfl | rfl | rfl
  · go_wp2_with fail
    go_ret
    exact ⟨_, fr, rfl, (by first | (simp [size_lit]; done) | (simp [size_lit]; omega)), by omega, by omega, HG1.out, HK1.out⟩
  · go_wp2_with fail
    go_ret
    exact ⟨_, fr, rfl, (by first | (simp [size_lit]; done) | (simp [size_lit]; omega)), by omega, by omega, HG1.out, HK1.out⟩
  · have c3 := HG1.out.c3
    go_wp2_with fail
    have HGd := Lib.hid HG1.out.drew
    have HKd := Lib.hid HK1.out.drew
    refine wp_region_noPanic ?_
    refine wp_region_held_drew (S := fun W => W.cell? ⟨X.wb, 0, none⟩ = some (.pointer (some ⟨X.g, 0, none⟩)) ∧ W.cell? ⟨X.wb, 3, none⟩ = some (.int .i64 X.F)) (by kernel_rfl) (⟨HGd.out.c0, HGd.out.c3⟩) (fun _ => ?_)
    generalize w1.drew = wd at *
    try simp only [Act.put, List.setIfInBounds_toArray, List.set_cons_zero, List.set_cons_succ]
    refine wpAnyH_take (i := 0) (oi := { dst := some 28, op := Op.move (Operand.tmp 0), type := 45, pos := "source.go:206", after := #[], guard := none }) (v := ?_) rfl (by kernel_rfl) (by kernel_rfl) (by kernel_rfl) (fun _ _ _ h => h) (Or.inl ⟨by rfl, ?_⟩) (⟨HGd.out.c0, HGd.out.c3⟩) ?_
    rotate_left 1
    · intro w hSw
      (try dsimp only at hSw); have hSa := hSw.1; have hSb := hSw.2; clear hSw
      go_simp
      first
        | done
        | with_reducible rfl
        | rw [if_neg (by omega)]
    try simp only [Act.put, List.setIfInBounds_toArray, List.set_cons_zero, List.set_cons_succ]
    refine wpAnyH_take (i := 1) (oi := { dst := some 29, op := Op.nilCheck (Operand.tmp 28), type := 0, pos := "source.go:206", after := #[{ on := 0, ground := Ground.data }], guard := none }) (v := ?_) rfl (by kernel_rfl) (by kernel_rfl) (by kernel_rfl) (fun _ _ _ h => h) (Or.inl ⟨by rfl, ?_⟩) (⟨HGd.out.c0, HGd.out.c3⟩) ?_
    rotate_left 1
    · intro w hSw
      (try dsimp only at hSw); have hSa := hSw.1; have hSb := hSw.2; clear hSw
      go_simp
      first
        | done
        | with_reducible rfl
        | rw [if_neg (by omega)]
    try simp only [Act.put, List.setIfInBounds_toArray, List.set_cons_zero, List.set_cons_succ]
    refine wpAnyH_take (i := 2) (oi := { dst := some 30, op := Op.fieldAddr 47 (Operand.tmp 29) 0, type := 0, pos := "source.go:206", after := #[{ on := 1, ground := Ground.data }], guard := none }) (v := ?_) rfl (by kernel_rfl) (by kernel_rfl) (by kernel_rfl) (fun _ _ _ h => h) (Or.inl ⟨by rfl, ?_⟩) (⟨HGd.out.c0, HGd.out.c3⟩) ?_
    rotate_left 1
    · intro w hSw
      (try dsimp only at hSw); have hSa := hSw.1; have hSb := hSw.2; clear hSw
      go_simp
      first
        | done
        | with_reducible rfl
        | rw [if_neg (by omega)]
    try simp only [Act.put, List.setIfInBounds_toArray, List.set_cons_zero, List.set_cons_succ]
    refine wpAnyH_take (i := 3) (oi := { dst := some 31, op := Op.load 40 (Operand.tmp 30), type := 40, pos := "source.go:206", after := #[{ on := 2, ground := Ground.data }], guard := none }) (v := ?_) rfl (by kernel_rfl) (by kernel_rfl) (by kernel_rfl) (fun _ _ _ h => h) (Or.inl ⟨by rfl, ?_⟩) (⟨HGd.out.c0, HGd.out.c3⟩) ?_
    rotate_left 1
    · intro w hSw
      (try dsimp only at hSw); have hSa := hSw.1; have hSb := hSw.2; clear hSw
      go_simp
      first
        | done
        | with_reducible rfl
        | rw [if_neg (by omega)]
    try simp only [Act.put, List.setIfInBounds_toArray, List.set_cons_zero, List.set_cons_succ]
    refine wpAnyH_take (i := 4) (oi := { dst := some 32, op := Op.move (Operand.tmp 0), type := 45, pos := "source.go:206", after := #[], guard := none }) (v := ?_) rfl (by kernel_rfl) (by kernel_rfl) (by kernel_rfl) (fun _ _ _ h => h) (Or.inl ⟨by rfl, ?_⟩) (⟨HGd.out.c0, HGd.out.c3⟩) ?_
    rotate_left 1
    · intro w hSw
      (try dsimp only at hSw); have hSa := hSw.1; have hSb := hSw.2; clear hSw
      go_simp
      first
        | done
        | with_reducible rfl
        | rw [if_neg (by omega)]
    try simp only [Act.put, List.setIfInBounds_toArray, List.set_cons_zero, List.set_cons_succ]
    refine wpAnyH_take (i := 5) (oi := { dst := some 33, op := Op.nilCheck (Operand.tmp 32), type := 0, pos := "source.go:206", after := #[{ on := 4, ground := Ground.data }], guard := none }) (v := ?_) rfl (by kernel_rfl) (by kernel_rfl) (by kernel_rfl) (fun _ _ _ h => h) (Or.inl ⟨by rfl, ?_⟩) (⟨HGd.out.c0, HGd.out.c3⟩) ?_
    rotate_left 1
    · intro w hSw
      (try dsimp only at hSw); have hSa := hSw.1; have hSb := hSw.2; clear hSw
      go_simp
      first
        | done
        | with_reducible rfl
        | rw [if_neg (by omega)]
    try simp only [Act.put, List.setIfInBounds_toArray, List.set_cons_zero, List.set_cons_succ]
    refine wpAnyH_take (i := 6) (oi := { dst := some 34, op := Op.fieldAddr 47 (Operand.tmp 33) 3, type := 0, pos := "source.go:206", after := #[{ on := 5, ground := Ground.data }], guard := none }) (v := ?_) rfl (by kernel_rfl) (by kernel_rfl) (by kernel_rfl) (fun _ _ _ h => h) (Or.inl ⟨by rfl, ?_⟩) (⟨HGd.out.c0, HGd.out.c3⟩) ?_
    rotate_left 1
    · intro w hSw
      (try dsimp only at hSw); have hSa := hSw.1; have hSb := hSw.2; clear hSw
      go_simp
      first
        | done
        | with_reducible rfl
        | rw [if_neg (by omega)]
    try simp only [Act.put, List.setIfInBounds_toArray, List.set_cons_zero, List.set_cons_succ]
    refine wpAnyH_take (i := 7) (oi := { dst := some 35, op := Op.load 3 (Operand.tmp 34), type := 3, pos := "source.go:206", after := #[{ on := 6, ground := Ground.data }], guard := none }) (v := ?_) rfl (by kernel_rfl) (by kernel_rfl) (by kernel_rfl) (fun _ _ _ h => h) (Or.inl ⟨by rfl, ?_⟩) (⟨HGd.out.c0, HGd.out.c3⟩) ?_
    rotate_left 1
    · intro w hSw
      (try dsimp only at hSw); have hSa := hSw.1; have hSb := hSw.2; clear hSw
      go_simp
      first
        | done
        | with_reducible rfl
        | rw [if_neg (by omega)]
    try simp only [Act.put, List.setIfInBounds_toArray, List.set_cons_zero, List.set_cons_succ]
    refine wpAnyH_ready (rs := [8]) (by kernel_rfl) (by simp) ?_
    refine AllReadyH.cons (o := { dst := some 36, op := Op.call { callee := Callee.value (Operand.func 14), args := #[Operand.tmp 31, Operand.tmp 35], argTypes := #[40, 3] }, type := 3, pos := "source.go:206", after := #[{ on := 3, ground := Ground.data }, { on := 7, ground := Ground.data }], guard := none }) rfl (fun K hK => ?_) (AllReadyH.nil)
    go_simp
    go_at_call 14
    refine (gnext (X.F : Int) X.F rfl (by have := HF.out; omega) (by have := HF.out; omega) HGd.out HN.out).mono ?_
    rintro e w50 ⟨r50, hr50, rfl, hG50, hK50⟩
    have HG50 := Lib.hid hG50
    have HK50 := Lib.hid (HKd.out.trans hK50)
    clear hG50 hK50
    try dsimp only
    have hd50 := digS_size r50
    have hr50b : r50 ≤ 2 := by have := HF.out; omega
    refine hK.out _ _ (⟨HG50.out.c0, HG50.out.c3⟩) (fun _ => ?_)
    clear hK K
    try simp only [Act.put, List.setIfInBounds_toArray, List.set_cons_zero, List.set_cons_succ]
    refine wpAnyH_ready (rs := [9]) (by kernel_rfl) (by simp) ?_
    refine AllReadyH.cons (o := { dst := some 37, op := Op.call { callee := Callee.value (Operand.func 13), args := #[Operand.tmp 36], argTypes := #[3] }, type := 9, pos := "source.go:206", after := #[{ on := 8, ground := Ground.data }, { on := 8, ground := Ground.chain }], guard := none }) rfl (fun K hK => ?_) (AllReadyH.nil)
    go_simp
    go_at_call 13
    refine (gdig _ r50 rfl (by omega) _).mono ?_
    rintro e w51 ⟨rfl, rfl⟩
    try dsimp only
    refine hK.out _ _ (⟨HG50.out.c0, HG50.out.c3⟩) (fun _ => ?_)
    clear hK K
    try simp only [Act.put, List.setIfInBounds_toArray, List.set_cons_zero, List.set_cons_succ]
    refine wpAnyH_take (i := 10) (oi := { dst := some 38, op := Op.binOp BinOp.add 9 (Operand.const (Value.string { data := #[80] })) (Operand.tmp 37) 9, type := 9, pos := "source.go:206", after := #[{ on := 9, ground := Ground.data }], guard := none }) (v := ?_) rfl (by kernel_rfl) (by kernel_rfl) (by kernel_rfl) (fun _ _ _ h => h) (Or.inl ⟨by rfl, ?_⟩) (⟨HG50.out.c0, HG50.out.c3⟩) ?_
    rotate_left 1
    · intro w hSw
      (try dsimp only at hSw); have hSa := hSw.1; have hSb := hSw.2; clear hSw
      go_simp
      first
        | done
        | with_reducible rfl
        | rw [if_neg (by omega)]
    try simp only [Act.put, List.setIfInBounds_toArray, List.set_cons_zero, List.set_cons_succ]
    refine wpAnyH_take (i := 11) (oi := { dst := some 4, op := Op.assign (Operand.tmp 38), type := 9, pos := "source.go:206", after := #[{ on := 10, ground := Ground.data }, { on := 9, ground := Ground.chain }, { on := 0, ground := Ground.phase }, { on := 1, ground := Ground.phase }, { on := 2, ground := Ground.phase }, { on := 3, ground := Ground.phase }, { on := 4, ground := Ground.phase }, { on := 5, ground := Ground.phase }, { on := 6, ground := Ground.phase }, { on := 7, ground := Ground.phase }, { on := 8, ground := Ground.phase }, { on := 9, ground := Ground.phase }, { on := 10, ground := Ground.phase }], guard := none }) (v := ?_) rfl (by kernel_rfl) (by kernel_rfl) (by kernel_rfl) (fun _ _ _ h => h) (Or.inl ⟨by rfl, ?_⟩) (⟨HG50.out.c0, HG50.out.c3⟩) ?_
    rotate_left 1
    · intro w hSw
      (try dsimp only at hSw); have hSa := hSw.1; have hSb := hSw.2; clear hSw
      go_simp
      first
        | done
        | with_reducible rfl
        | rw [if_neg (by omega)]
    try simp only [Act.put, List.setIfInBounds_toArray, List.set_cons_zero, List.set_cons_succ]
    refine wpAnyH_done (by kernel_rfl) ?_ _
    refine NoPanic.normal ?_
    go_wp2_with fail
    go_ret
    exact ⟨_, fr, rfl, by (try simp [ByteArray.size_append, size_lit]); omega, by omega, by omega, HG50.out, HK50.out⟩
  · go_wp2_with fail
    refine (HE0.out _ _ _ _ _ _ HG1.out HN.out (by omega)).mono ?_
    rintro e w10 ⟨s10, f10, rfl, hs10, hf10, hg10, hG10, hK10⟩
    have hb10 : s10.size ≤ 500 := by omega
    have HG10 := Lib.hid hG10
    have HK10 := Lib.hid (HK1.out.trans hK10)
    clear hG10 hK10
    have c10 := HG10.out.c0
    go_wp2_with fail
    go_ret
    exact ⟨_, f10, rfl, by (try simp [ByteArray.size_append, size_lit]); omega, by omega, by omega, HG10.out, HK10.out⟩

set_option maxRecDepth 100000 in
set_option maxHeartbeats 25600000 in
theorem gproc_up {dep dep' : Int} {L D L1 D1 : Nat} (hP : PCon dep' L D) (hE1 : ECon 1 L1 D1) (hd : IntKind.i64.wrap (dep - 1) = dep') (hp : 0 < dep) (hL : L ≤ 300) (hL1 : L1 ≤ 300) : PCon dep (40 + L1 + 2 * L) (1 + D1 + 2 * D) := by
  intro w Pr X k fr h hn hF hf
  have k0 := h.c0
  have hkf := h.kf
  have HS := Lib.hid h
  have HN := Lib.hid hn
  have HF := Lib.hid hF
  have HE0 := Lib.hid gexpr0
  have HE1 := Lib.hid hE1
  have HP := Lib.hid hP
  have HL := Lib.hid h.lt
  have HK0 : Hid (Keep Pr w w) := Keep.refl Pr w
  have hp2 : ¬ dep ≤ 0 := by omega
  clear h hn hF hP hE1
  go_enter Tryz.func20, Tryz.ntmps20
  go_wp2_with fail
  refine (gnext 16 16 rfl (by decide) (by decide) HS.out HN.out).mono ?_
  rintro e w1 ⟨r1, hr1, rfl, hG1, hK1⟩
  have HG1 := Lib.hid hG1
  have HK1 := Lib.hid (HK0.out.trans hK1)
  clear hG1 hK1
  have c1 := HG1.out.c0
  have hd1 := digS_size r1
  have hc : r1 = 0 ∨ r1 = 1 ∨ r1 = 2 ∨ r1 = 3 ∨ r1 = 4 ∨ r1 = 5 ∨ r1 = 6 ∨ r1 = 7 ∨ r1 = 8 ∨ r1 = 9 ∨ r1 = 10 ∨ r1 = 11 ∨ r1 = 12 ∨ r1 = 13 ∨ r1 = 14 ∨ r1 = 15 := by omega
  rcases hc with rfl | rfl | rfl | rfl | rfl | rfl | rfl | rfl | rfl | rfl | rfl | rfl | rfl | rfl | rfl | rfl
  · go_wp2_with fail
    go_ret
    exact ⟨_, fr, rfl, (by first | (simp [size_lit]; done) | (simp [size_lit]; omega)), by omega, by omega, HG1.out, HK1.out⟩
  · go_wp2_with fail
    go_ret
    exact ⟨_, fr, rfl, (by first | (simp [size_lit]; done) | (simp [size_lit]; omega)), by omega, by omega, HG1.out, HK1.out⟩
  · have c3 := HG1.out.c3
    go_wp2_with fail
    have HGd := Lib.hid HG1.out.drew
    have HKd := Lib.hid HK1.out.drew
    refine wp_region_noPanic ?_
    refine wp_region_held_drew (S := fun W => W.cell? ⟨X.wb, 0, none⟩ = some (.pointer (some ⟨X.g, 0, none⟩)) ∧ W.cell? ⟨X.wb, 3, none⟩ = some (.int .i64 X.F)) (by kernel_rfl) (⟨HGd.out.c0, HGd.out.c3⟩) (fun _ => ?_)
    generalize w1.drew = wd at *
    try simp only [Act.put, List.setIfInBounds_toArray, List.set_cons_zero, List.set_cons_succ]
    refine wpAnyH_take (i := 0) (oi := { dst := some 28, op := Op.move (Operand.tmp 0), type := 45, pos := "source.go:206", after := #[], guard := none }) (v := ?_) rfl (by kernel_rfl) (by kernel_rfl) (by kernel_rfl) (fun _ _ _ h => h) (Or.inl ⟨by rfl, ?_⟩) (⟨HGd.out.c0, HGd.out.c3⟩) ?_
    rotate_left 1
    · intro w hSw
      (try dsimp only at hSw); have hSa := hSw.1; have hSb := hSw.2; clear hSw
      go_simp
      first
        | done
        | with_reducible rfl
        | rw [if_neg (by omega)]
    try simp only [Act.put, List.setIfInBounds_toArray, List.set_cons_zero, List.set_cons_succ]
    refine wpAnyH_take (i := 1) (oi := { dst := some 29, op := Op.nilCheck (Operand.tmp 28), type := 0, pos := "source.go:206", after := #[{ on := 0, ground := Ground.data }], guard := none }) (v := ?_) rfl (by kernel_rfl) (by kernel_rfl) (by kernel_rfl) (fun _ _ _ h => h) (Or.inl ⟨by rfl, ?_⟩) (⟨HGd.out.c0, HGd.out.c3⟩) ?_
    rotate_left 1
    · intro w hSw
      (try dsimp only at hSw); have hSa := hSw.1; have hSb := hSw.2; clear hSw
      go_simp
      first
        | done
        | with_reducible rfl
        | rw [if_neg (by omega)]
    try simp only [Act.put, List.setIfInBounds_toArray, List.set_cons_zero, List.set_cons_succ]
    refine wpAnyH_take (i := 2) (oi := { dst := some 30, op := Op.fieldAddr 47 (Operand.tmp 29) 0, type := 0, pos := "source.go:206", after := #[{ on := 1, ground := Ground.data }], guard := none }) (v := ?_) rfl (by kernel_rfl) (by kernel_rfl) (by kernel_rfl) (fun _ _ _ h => h) (Or.inl ⟨by rfl, ?_⟩) (⟨HGd.out.c0, HGd.out.c3⟩) ?_
    rotate_left 1
    · intro w hSw
      (try dsimp only at hSw); have hSa := hSw.1; have hSb := hSw.2; clear hSw
      go_simp
      first
        | done
        | with_reducible rfl
        | rw [if_neg (by omega)]
    try simp only [Act.put, List.setIfInBounds_toArray, List.set_cons_zero, List.set_cons_succ]
    refine wpAnyH_take (i := 3) (oi := { dst := some 31, op := Op.load 40 (Operand.tmp 30), type := 40, pos := "source.go:206", after := #[{ on := 2, ground := Ground.data }], guard := none }) (v := ?_) rfl (by kernel_rfl) (by kernel_rfl) (by kernel_rfl) (fun _ _ _ h => h) (Or.inl ⟨by rfl, ?_⟩) (⟨HGd.out.c0, HGd.out.c3⟩) ?_
    rotate_left 1
    · intro w hSw
      (try dsimp only at hSw); have hSa := hSw.1; have hSb := hSw.2; clear hSw
      go_simp
      first
        | done
        | with_reducible rfl
        | rw [if_neg (by omega)]
    try simp only [Act.put, List.setIfInBounds_toArray, List.set_cons_zero, List.set_cons_succ]
    refine wpAnyH_take (i := 4) (oi := { dst := some 32, op := Op.move (Operand.tmp 0), type := 45, pos := "source.go:206", after := #[], guard := none }) (v := ?_) rfl (by kernel_rfl) (by kernel_rfl) (by kernel_rfl) (fun _ _ _ h => h) (Or.inl ⟨by rfl, ?_⟩) (⟨HGd.out.c0, HGd.out.c3⟩) ?_
    rotate_left 1
    · intro w hSw
      (try dsimp only at hSw); have hSa := hSw.1; have hSb := hSw.2; clear hSw
      go_simp
      first
        | done
        | with_reducible rfl
        | rw [if_neg (by omega)]
    try simp only [Act.put, List.setIfInBounds_toArray, List.set_cons_zero, List.set_cons_succ]
    refine wpAnyH_take (i := 5) (oi := { dst := some 33, op := Op.nilCheck (Operand.tmp 32), type := 0, pos := "source.go:206", after := #[{ on := 4, ground := Ground.data }], guard := none }) (v := ?_) rfl (by kernel_rfl) (by kernel_rfl) (by kernel_rfl) (fun _ _ _ h => h) (Or.inl ⟨by rfl, ?_⟩) (⟨HGd.out.c0, HGd.out.c3⟩) ?_
    rotate_left 1
    · intro w hSw
      (try dsimp only at hSw); have hSa := hSw.1; have hSb := hSw.2; clear hSw
      go_simp
      first
        | done
        | with_reducible rfl
        | rw [if_neg (by omega)]
    try simp only [Act.put, List.setIfInBounds_toArray, List.set_cons_zero, List.set_cons_succ]
    refine wpAnyH_take (i := 6) (oi := { dst := some 34, op := Op.fieldAddr 47 (Operand.tmp 33) 3, type := 0, pos := "source.go:206", after := #[{ on := 5, ground := Ground.data }], guard := none }) (v := ?_) rfl (by kernel_rfl) (by kernel_rfl) (by kernel_rfl) (fun _ _ _ h => h) (Or.inl ⟨by rfl, ?_⟩) (⟨HGd.out.c0, HGd.out.c3⟩) ?_
    rotate_left 1
    · intro w hSw
      (try dsimp only at hSw); have hSa := hSw.1; have hSb := hSw.2; clear hSw
      go_simp
      first
        | done
        | with_reducible rfl
        | rw [if_neg (by omega)]
    try simp only [Act.put, List.setIfInBounds_toArray, List.set_cons_zero, List.set_cons_succ]
    refine wpAnyH_take (i := 7) (oi := { dst := some 35, op := Op.load 3 (Operand.tmp 34), type := 3, pos := "source.go:206", after := #[{ on := 6, ground := Ground.data }], guard := none }) (v := ?_) rfl (by kernel_rfl) (by kernel_rfl) (by kernel_rfl) (fun _ _ _ h => h) (Or.inl ⟨by rfl, ?_⟩) (⟨HGd.out.c0, HGd.out.c3⟩) ?_
    rotate_left 1
    · intro w hSw
      (try dsimp only at hSw); have hSa := hSw.1; have hSb := hSw.2; clear hSw
      go_simp
      first
        | done
        | with_reducible rfl
        | rw [if_neg (by omega)]
    try simp only [Act.put, List.setIfInBounds_toArray, List.set_cons_zero, List.set_cons_succ]
    refine wpAnyH_ready (rs := [8]) (by kernel_rfl) (by simp) ?_
    refine AllReadyH.cons (o := { dst := some 36, op := Op.call { callee := Callee.value (Operand.func 14), args := #[Operand.tmp 31, Operand.tmp 35], argTypes := #[40, 3] }, type := 3, pos := "source.go:206", after := #[{ on := 3, ground := Ground.data }, { on := 7, ground := Ground.data }], guard := none }) rfl (fun K hK => ?_) (AllReadyH.nil)
    go_simp
    go_at_call 14
    refine (gnext (X.F : Int) X.F rfl (by have := HF.out; omega) (by have := HF.out; omega) HGd.out HN.out).mono ?_
    rintro e w50 ⟨r50, hr50, rfl, hG50, hK50⟩
    have HG50 := Lib.hid hG50
    have HK50 := Lib.hid (HKd.out.trans hK50)
    clear hG50 hK50
    try dsimp only
    have hd50 := digS_size r50
    have hr50b : r50 ≤ 2 := by have := HF.out; omega
    refine hK.out _ _ (⟨HG50.out.c0, HG50.out.c3⟩) (fun _ => ?_)
    clear hK K
    try simp only [Act.put, List.setIfInBounds_toArray, List.set_cons_zero, List.set_cons_succ]
    refine wpAnyH_ready (rs := [9]) (by kernel_rfl) (by simp) ?_
    refine AllReadyH.cons (o := { dst := some 37, op := Op.call { callee := Callee.value (Operand.func 13), args := #[Operand.tmp 36], argTypes := #[3] }, type := 9, pos := "source.go:206", after := #[{ on := 8, ground := Ground.data }, { on := 8, ground := Ground.chain }], guard := none }) rfl (fun K hK => ?_) (AllReadyH.nil)
    go_simp
    go_at_call 13
    refine (gdig _ r50 rfl (by omega) _).mono ?_
    rintro e w51 ⟨rfl, rfl⟩
    try dsimp only
    refine hK.out _ _ (⟨HG50.out.c0, HG50.out.c3⟩) (fun _ => ?_)
    clear hK K
    try simp only [Act.put, List.setIfInBounds_toArray, List.set_cons_zero, List.set_cons_succ]
    refine wpAnyH_take (i := 10) (oi := { dst := some 38, op := Op.binOp BinOp.add 9 (Operand.const (Value.string { data := #[80] })) (Operand.tmp 37) 9, type := 9, pos := "source.go:206", after := #[{ on := 9, ground := Ground.data }], guard := none }) (v := ?_) rfl (by kernel_rfl) (by kernel_rfl) (by kernel_rfl) (fun _ _ _ h => h) (Or.inl ⟨by rfl, ?_⟩) (⟨HG50.out.c0, HG50.out.c3⟩) ?_
    rotate_left 1
    · intro w hSw
      (try dsimp only at hSw); have hSa := hSw.1; have hSb := hSw.2; clear hSw
      go_simp
      first
        | done
        | with_reducible rfl
        | rw [if_neg (by omega)]
    try simp only [Act.put, List.setIfInBounds_toArray, List.set_cons_zero, List.set_cons_succ]
    refine wpAnyH_take (i := 11) (oi := { dst := some 4, op := Op.assign (Operand.tmp 38), type := 9, pos := "source.go:206", after := #[{ on := 10, ground := Ground.data }, { on := 9, ground := Ground.chain }, { on := 0, ground := Ground.phase }, { on := 1, ground := Ground.phase }, { on := 2, ground := Ground.phase }, { on := 3, ground := Ground.phase }, { on := 4, ground := Ground.phase }, { on := 5, ground := Ground.phase }, { on := 6, ground := Ground.phase }, { on := 7, ground := Ground.phase }, { on := 8, ground := Ground.phase }, { on := 9, ground := Ground.phase }, { on := 10, ground := Ground.phase }], guard := none }) (v := ?_) rfl (by kernel_rfl) (by kernel_rfl) (by kernel_rfl) (fun _ _ _ h => h) (Or.inl ⟨by rfl, ?_⟩) (⟨HG50.out.c0, HG50.out.c3⟩) ?_
    rotate_left 1
    · intro w hSw
      (try dsimp only at hSw); have hSa := hSw.1; have hSb := hSw.2; clear hSw
      go_simp
      first
        | done
        | with_reducible rfl
        | rw [if_neg (by omega)]
    try simp only [Act.put, List.setIfInBounds_toArray, List.set_cons_zero, List.set_cons_succ]
    refine wpAnyH_done (by kernel_rfl) ?_ _
    refine NoPanic.normal ?_
    go_wp2_with fail
    go_ret
    exact ⟨_, fr, rfl, by (try simp [ByteArray.size_append, size_lit]); omega, by omega, by omega, HG50.out, HK50.out⟩
  · go_wp2_with fail
    refine (HE0.out _ _ _ _ _ _ HG1.out HN.out (by omega)).mono ?_
    rintro e w10 ⟨s10, f10, rfl, hs10, hf10, hg10, hG10, hK10⟩
    have hb10 : s10.size ≤ 500 := by omega
    have HG10 := Lib.hid hG10
    have HK10 := Lib.hid (HK1.out.trans hK10)
    clear hG10 hK10
    have c10 := HG10.out.c0
    go_wp2_with fail
    go_ret
    exact ⟨_, f10, rfl, by (try simp [ByteArray.size_append, size_lit]); omega, by omega, by omega, HG10.out, HK10.out⟩
  · go_wp2_with fail
    refine (gevent HG1.out HN.out).mono ?_
    rintro e w10 ⟨s10, f10, rfl, hs10, hf10, hg10, hG10, hK10⟩
    have HG10 := Lib.hid hG10
    have HK10 := Lib.hid (HK1.out.trans hK10)
    clear hG10 hK10
    have c10 := HG10.out.c0
    go_wp2_with fail
    refine (HP.out _ _ _ _ _ HG10.out HN.out HF.out (by omega)).mono ?_
    rintro e w11 ⟨s11, f11, rfl, hs11, hf11, hg11, hG11, hK11⟩
    have hb11 : s11.size ≤ 500 := by omega
    have HG11 := Lib.hid hG11
    have HK11 := Lib.hid (HK10.out.trans hK11)
    clear hG11 hK11
    have c11 := HG11.out.c0
    go_wp2_with fail
    go_ret
    exact ⟨_, f11, rfl, by (try simp [ByteArray.size_append, size_lit]); omega, by omega, by omega, HG11.out, HK11.out⟩
  · go_wp2_with fail
    refine (gevent HG1.out HN.out).mono ?_
    rintro e w10 ⟨s10, f10, rfl, hs10, hf10, hg10, hG10, hK10⟩
    have HG10 := Lib.hid hG10
    have HK10 := Lib.hid (HK1.out.trans hK10)
    clear hG10 hK10
    have c10 := HG10.out.c0
    go_wp2_with fail
    refine (HP.out _ _ _ _ _ HG10.out HN.out HF.out (by omega)).mono ?_
    rintro e w11 ⟨s11, f11, rfl, hs11, hf11, hg11, hG11, hK11⟩
    have hb11 : s11.size ≤ 500 := by omega
    have HG11 := Lib.hid hG11
    have HK11 := Lib.hid (HK10.out.trans hK11)
    clear hG11 hK11
    have c11 := HG11.out.c0
    go_wp2_with fail
    go_ret
    exact ⟨_, f11, rfl, by (try simp [ByteArray.size_append, size_lit]); omega, by omega, by omega, HG11.out, HK11.out⟩
  · go_wp2_with fail
    refine (gmark HG1.out).mono ?_
    rintro e w10 ⟨rfl, rfl⟩
    go_wp2_with fail
    refine (gbind _ HG1.out (by omega)).mono ?_
    rintro e w11 ⟨s11, rfl, hb11, hG11, hK11⟩
    have HG11 := Lib.hid hG11
    have HK11 := Lib.hid (HK1.out.trans hK11)
    clear hG11 hK11
    have c11 := HG11.out.c0
    go_wp2_with fail
    refine (HP.out _ _ _ _ _ HG11.out HN.out HF.out (by omega)).mono ?_
    rintro e w12 ⟨s12, f12, rfl, hs12, hf12, hg12, hG12, hK12⟩
    have hb12 : s12.size ≤ 500 := by omega
    have HG12 := Lib.hid hG12
    have HK12 := Lib.hid (HK11.out.trans hK12)
    clear hG12 hK12
    have c12 := HG12.out.c0
    go_wp2_with fail
    refine (greset k HG12.out (by omega)).mono ?_
    rintro e w13 ⟨rfl, hG13, hK13⟩
    have HG13 := Lib.hid hG13
    have HK13 := Lib.hid (HK12.out.trans hK13)
    clear hG13 hK13
    have c13 := HG13.out.c0
    go_wp2_with fail
    go_ret
    exact ⟨_, f12, rfl, by (try simp [ByteArray.size_append, size_lit]); omega, by omega, by omega, HG13.out, HK13.out⟩
  · go_wp2_with fail
    refine (gnext 3 3 rfl (by decide) (by decide) HG1.out HN.out).mono ?_
    rintro e w10 ⟨r10, hr10, rfl, hG10, hK10⟩
    have HG10 := Lib.hid hG10
    have HK10 := Lib.hid (HK1.out.trans hK10)
    clear hG10 hK10
    have c10 := HG10.out.c0
    have hd10 := digS_size r10
    go_wp2_with fail
    refine (gdig _ r10 rfl (by omega) _).mono ?_
    rintro e w11 ⟨rfl, rfl⟩
    go_wp2_with fail
    refine (HP.out _ _ _ _ _ HG10.out HN.out HF.out (by omega)).mono ?_
    rintro e w12 ⟨s12, f12, rfl, hs12, hf12, hg12, hG12, hK12⟩
    have hb12 : s12.size ≤ 500 := by omega
    have HG12 := Lib.hid hG12
    have HK12 := Lib.hid (HK10.out.trans hK12)
    clear hG12 hK12
    have c12 := HG12.out.c0
    go_wp2_with fail
    go_ret
    exact ⟨_, f12, rfl, by (try simp [ByteArray.size_append, size_lit]); omega, by omega, by omega, HG12.out, HK12.out⟩
  · go_wp2_with fail
    have HGd := Lib.hid HG1.out.drew
    have HKd := Lib.hid HK1.out.drew
    refine wp_region_noPanic ?_
    refine wp_region_held_drew (S := fun W => W.cell? ⟨X.wb, 0, none⟩ = some (.pointer (some ⟨X.g, 0, none⟩))) (by kernel_rfl) (HGd.out.c0) (fun _ => ?_)
    generalize w1.drew = wd at *
    try simp only [Act.put, List.setIfInBounds_toArray, List.set_cons_zero, List.set_cons_succ]
    refine wpAnyH_take (i := 0) (oi := { dst := some 96, op := Op.move (Operand.tmp 0), type := 45, pos := "source.go:220", after := #[], guard := none }) (v := ?_) rfl (by kernel_rfl) (by kernel_rfl) (by kernel_rfl) (fun _ _ _ h => h) (Or.inl ⟨by rfl, ?_⟩) (HGd.out.c0) ?_
    rotate_left 1
    · intro w hSw
      try dsimp only at hSw
      go_simp
      first
        | done
        | with_reducible rfl
        | rw [if_neg (by omega)]
    try simp only [Act.put, List.setIfInBounds_toArray, List.set_cons_zero, List.set_cons_succ]
    refine wpAnyH_take (i := 1) (oi := { dst := some 97, op := Op.move (Operand.tmp 1), type := 3, pos := "source.go:220", after := #[], guard := none }) (v := ?_) rfl (by kernel_rfl) (by kernel_rfl) (by kernel_rfl) (fun _ _ _ h => h) (Or.inl ⟨by rfl, ?_⟩) (HGd.out.c0) ?_
    rotate_left 1
    · intro w hSw
      try dsimp only at hSw
      go_simp
      first
        | done
        | with_reducible rfl
        | rw [if_neg (by omega)]
    try simp only [Act.put, List.setIfInBounds_toArray, List.set_cons_zero, List.set_cons_succ]
    refine wpAnyH_take (i := 2) (oi := { dst := some 98, op := Op.binOp BinOp.sub 3 (Operand.tmp 97) (Operand.const (Value.int IntKind.i64 1)) 3, type := 3, pos := "source.go:220", after := #[{ on := 1, ground := Ground.data }], guard := none }) (v := ?_) rfl (by kernel_rfl) (by kernel_rfl) (by kernel_rfl) (fun _ _ _ h => h) (Or.inl ⟨by rfl, ?_⟩) (HGd.out.c0) ?_
    rotate_left 1
    · intro w hSw
      try dsimp only at hSw
      go_simp
      first
        | done
        | with_reducible rfl
        | rw [if_neg (by omega)]
    try simp only [Act.put, List.setIfInBounds_toArray, List.set_cons_zero, List.set_cons_succ]
    refine wpAnyH_take (i := 6) (oi := { dst := some 102, op := Op.move (Operand.tmp 0), type := 45, pos := "source.go:220", after := #[], guard := none }) (v := ?_) rfl (by kernel_rfl) (by kernel_rfl) (by kernel_rfl) (fun _ _ _ h => h) (Or.inl ⟨by rfl, ?_⟩) (HGd.out.c0) ?_
    rotate_left 1
    · intro w hSw
      try dsimp only at hSw
      go_simp
      first
        | done
        | with_reducible rfl
        | rw [if_neg (by omega)]
    try simp only [Act.put, List.setIfInBounds_toArray, List.set_cons_zero, List.set_cons_succ]
    refine wpAnyH_take (i := 7) (oi := { dst := some 103, op := Op.nilCheck (Operand.tmp 102), type := 0, pos := "source.go:220", after := #[{ on := 6, ground := Ground.data }], guard := none }) (v := ?_) rfl (by kernel_rfl) (by kernel_rfl) (by kernel_rfl) (fun _ _ _ h => h) (Or.inl ⟨by rfl, ?_⟩) (HGd.out.c0) ?_
    rotate_left 1
    · intro w hSw
      try dsimp only at hSw
      go_simp
      first
        | done
        | with_reducible rfl
        | rw [if_neg (by omega)]
    try simp only [Act.put, List.setIfInBounds_toArray, List.set_cons_zero, List.set_cons_succ]
    refine wpAnyH_take (i := 8) (oi := { dst := some 104, op := Op.fieldAddr 47 (Operand.tmp 103) 0, type := 0, pos := "source.go:220", after := #[{ on := 7, ground := Ground.data }], guard := none }) (v := ?_) rfl (by kernel_rfl) (by kernel_rfl) (by kernel_rfl) (fun _ _ _ h => h) (Or.inl ⟨by rfl, ?_⟩) (HGd.out.c0) ?_
    rotate_left 1
    · intro w hSw
      try dsimp only at hSw
      go_simp
      first
        | done
        | with_reducible rfl
        | rw [if_neg (by omega)]
    try simp only [Act.put, List.setIfInBounds_toArray, List.set_cons_zero, List.set_cons_succ]
    refine wpAnyH_take (i := 9) (oi := { dst := some 105, op := Op.load 40 (Operand.tmp 104), type := 40, pos := "source.go:220", after := #[{ on := 8, ground := Ground.data }], guard := none }) (v := ?_) rfl (by kernel_rfl) (by kernel_rfl) (by kernel_rfl) (fun _ _ _ h => h) (Or.inl ⟨by rfl, ?_⟩) (HGd.out.c0) ?_
    rotate_left 1
    · intro w hSw
      try dsimp only at hSw
      go_simp
      first
        | done
        | with_reducible rfl
        | rw [if_neg (by omega)]
    try simp only [Act.put, List.setIfInBounds_toArray, List.set_cons_zero, List.set_cons_succ]
    refine wpAnyH_take (i := 14) (oi := { dst := some 110, op := Op.move (Operand.tmp 0), type := 45, pos := "source.go:220", after := #[], guard := none }) (v := ?_) rfl (by kernel_rfl) (by kernel_rfl) (by kernel_rfl) (fun _ _ _ h => h) (Or.inl ⟨by rfl, ?_⟩) (HGd.out.c0) ?_
    rotate_left 1
    · intro w hSw
      try dsimp only at hSw
      go_simp
      first
        | done
        | with_reducible rfl
        | rw [if_neg (by omega)]
    try simp only [Act.put, List.setIfInBounds_toArray, List.set_cons_zero, List.set_cons_succ]
    refine wpAnyH_take (i := 15) (oi := { dst := some 111, op := Op.move (Operand.tmp 1), type := 3, pos := "source.go:220", after := #[], guard := none }) (v := ?_) rfl (by kernel_rfl) (by kernel_rfl) (by kernel_rfl) (fun _ _ _ h => h) (Or.inl ⟨by rfl, ?_⟩) (HGd.out.c0) ?_
    rotate_left 1
    · intro w hSw
      try dsimp only at hSw
      go_simp
      first
        | done
        | with_reducible rfl
        | rw [if_neg (by omega)]
    try simp only [Act.put, List.setIfInBounds_toArray, List.set_cons_zero, List.set_cons_succ]
    refine wpAnyH_take (i := 16) (oi := { dst := some 112, op := Op.binOp BinOp.sub 3 (Operand.tmp 111) (Operand.const (Value.int IntKind.i64 1)) 3, type := 3, pos := "source.go:220", after := #[{ on := 15, ground := Ground.data }], guard := none }) (v := ?_) rfl (by kernel_rfl) (by kernel_rfl) (by kernel_rfl) (fun _ _ _ h => h) (Or.inl ⟨by rfl, ?_⟩) (HGd.out.c0) ?_
    rotate_left 1
    · intro w hSw
      try dsimp only at hSw
      go_simp
      first
        | done
        | with_reducible rfl
        | rw [if_neg (by omega)]
    try simp only [Act.put, List.setIfInBounds_toArray, List.set_cons_zero, List.set_cons_succ]
    refine wpAnyH_ready (rs := [3, 5]) (by kernel_rfl) (by simp) ?_
    refine AllReadyH.cons (o := { dst := some 99, op := Op.call { callee := Callee.value (Operand.func 20), args := #[Operand.tmp 96, Operand.tmp 98], argTypes := #[45, 3] }, type := 9, pos := "source.go:220", after := #[{ on := 0, ground := Ground.data }, { on := 2, ground := Ground.data }], guard := none }) rfl (fun K hK => ?_) (AllReadyH.cons (o := { dst := some 101, op := Op.buildSlice 44 6 #[(0, Operand.const (Value.string { data := #[32, 91, 93, 32] })), (1, Operand.const (Value.string { data := #[32, 124, 126, 124, 32] })), (2, Operand.const (Value.string { data := #[32, 59, 32] })), (3, Operand.const (Value.string { data := #[32, 47, 92, 32] })), (4, Operand.const (Value.string { data := #[32, 91, 62, 32] })), (5, Operand.const (Value.string { data := #[32, 124, 124, 124, 32] }))], type := 44, pos := "source.go:220", after := #[], guard := none }) rfl (fun K hK => ?_) (AllReadyH.nil))
    · go_simp
      go_at_call 20
      refine (HP.out _ _ _ _ _ HGd.out HN.out HF.out (by omega)).mono ?_
      rintro e w50 ⟨s50, f50, rfl, hs50, hf50, hg50, hG50, hK50⟩
      have HG50 := Lib.hid hG50
      have HK50 := Lib.hid (HKd.out.trans hK50)
      clear hG50 hK50
      try dsimp only
      have hb50 : s50.size ≤ 500 := by omega
      refine hK.out _ _ (HG50.out.c0) (fun _ => ?_)
      clear hK K
      try simp only [Act.put, List.setIfInBounds_toArray, List.set_cons_zero, List.set_cons_succ]
      refine wpAnyH_take (i := 4) (oi := { dst := some 100, op := Op.binOp BinOp.add 9 (Operand.const (Value.string { data := #[40] })) (Operand.tmp 99) 9, type := 9, pos := "source.go:220", after := #[{ on := 3, ground := Ground.data }], guard := none }) (v := ?_) rfl (by kernel_rfl) (by kernel_rfl) (by kernel_rfl) (fun _ _ _ h => h) (Or.inl ⟨by rfl, ?_⟩) (HG50.out.c0) ?_
      rotate_left 1
      · intro w hSw
        try dsimp only at hSw
        go_simp
        first
          | done
          | with_reducible rfl
          | rw [if_neg (by omega)]
      try simp only [Act.put, List.setIfInBounds_toArray, List.set_cons_zero, List.set_cons_succ]
      refine wpAnyH_ready (rs := [5, 10]) (by kernel_rfl) (by simp) ?_
      refine AllReadyH.cons (o := { dst := some 101, op := Op.buildSlice 44 6 #[(0, Operand.const (Value.string { data := #[32, 91, 93, 32] })), (1, Operand.const (Value.string { data := #[32, 124, 126, 124, 32] })), (2, Operand.const (Value.string { data := #[32, 59, 32] })), (3, Operand.const (Value.string { data := #[32, 47, 92, 32] })), (4, Operand.const (Value.string { data := #[32, 91, 62, 32] })), (5, Operand.const (Value.string { data := #[32, 124, 124, 124, 32] }))], type := 44, pos := "source.go:220", after := #[], guard := none }) rfl (fun K hK => ?_) (AllReadyH.cons (o := { dst := some 106, op := Op.call { callee := Callee.value (Operand.func 14), args := #[Operand.tmp 105, Operand.const (Value.int IntKind.i64 6)], argTypes := #[40, 3] }, type := 3, pos := "source.go:220", after := #[{ on := 9, ground := Ground.data }, { on := 3, ground := Ground.chain }], guard := none }) rfl (fun K hK => ?_) (AllReadyH.nil))
      · go_simp
        try dsimp only
        have HG51 := Lib.hid (HG50.out.more (strBlock tlL))
        have HK51 := Lib.hid (HK50.out.alloc HL.out (strBlock tlL))
        have HB51 : Hid ((w50.alloc (strBlock tlL)).heap[w50.heap.size]? = some (strBlock tlL)) := heap_alloc_new w50 _
        have hgb51 := HG50.out.gl
        refine hK.out _ (w50.alloc (strBlock tlL)) (HG51.out.c0) (fun _ => ?_)
        clear hK K
        generalize hwe51 : w50.alloc (strBlock tlL) = wl51 at *
        clear hwe51
        generalize hbe51 : w50.heap.size = bl51 at *
        clear hbe51
        try simp only [Act.put, List.setIfInBounds_toArray, List.set_cons_zero, List.set_cons_succ]
        refine wpAnyH_ready (rs := [10]) (by kernel_rfl) (by simp) ?_
        refine AllReadyH.cons (o := { dst := some 106, op := Op.call { callee := Callee.value (Operand.func 14), args := #[Operand.tmp 105, Operand.const (Value.int IntKind.i64 6)], argTypes := #[40, 3] }, type := 3, pos := "source.go:220", after := #[{ on := 9, ground := Ground.data }, { on := 3, ground := Ground.chain }], guard := none }) rfl (fun K hK => ?_) (AllReadyH.nil)
        go_simp
        go_at_call 14
        refine (gnext 6 6 rfl (by decide) (by decide) HG51.out HN.out).mono ?_
        rintro e w52 ⟨r52, hr52, rfl, hG52, hK52⟩
        have HG52 := Lib.hid hG52
        have HK52 := Lib.hid (HK51.out.trans (hK52.mono fun _ q => .inl q))
        have HB52 := Lib.hid ((hK52.block _ (.inr rfl)).trans HB51.out)
        clear hG52 hK52
        try dsimp only
        have hx52 : (0 : Int) ≤ (r52 : Int) := by omega
        have hy52 : (r52 : Int) < 6 := by omega
        have hd52 := digS_size r52
        refine hK.out _ _ (HG52.out.c0) (fun _ => ?_)
        clear hK K
        try simp only [Act.put, List.setIfInBounds_toArray, List.set_cons_zero, List.set_cons_succ]
        refine wpAnyH_take (i := 11) (oi := { dst := some 107, op := Op.indexAddr 44 (Operand.tmp 101) (Operand.tmp 106), type := 0, pos := "source.go:220", after := #[{ on := 5, ground := Ground.data }, { on := 10, ground := Ground.data }], guard := none }) (v := ?_) rfl (by kernel_rfl) (by kernel_rfl) (by kernel_rfl) (fun _ _ _ h => h) (Or.inl ⟨by rfl, ?_⟩) (HG52.out.c0) ?_
        rotate_left 1
        · intro w hSw
          try dsimp only at hSw
          go_simp
          first
            | done
            | with_reducible rfl
            | rw [if_neg (by omega)]
        try simp only [Act.put, List.setIfInBounds_toArray, List.set_cons_zero, List.set_cons_succ]
        have hl53 : w52.cell? ⟨bl51, r52, none⟩ = some (.string (S (tlL.getD r52 []))) := str_cell HB52.out r52 (show r52 < tlL.length from hr52)
        have hle53 := tlL_le r52 hr52
        have hlc53 : Hid (∀ W : World, W.heap[bl51]? = some (strBlock tlL) → W.cell? ⟨bl51, r52, none⟩ = some (.string (S (tlL.getD r52 [])))) := Lib.hid (fun W q => str_cell q r52 (show r52 < tlL.length from hr52))
        generalize tlL.getD r52 [] = st53 at *
        refine wpAnyH_stronger (S' := fun W => (W.cell? ⟨X.wb, 0, none⟩ = some (.pointer (some ⟨X.g, 0, none⟩))) ∧ W.cell? ⟨bl51, r52, none⟩ = some (.string (S st53))) (fun _ q => q.1) ?_
        have hlS53 : (S st53).size ≤ 10 := by rw [S_size]; omega
        refine wpAnyH_take (i := 12) (oi := { dst := some 108, op := Op.load 9 (Operand.tmp 107), type := 9, pos := "source.go:220", after := #[{ on := 11, ground := Ground.data }], guard := none }) (v := ?_) rfl (by kernel_rfl) (by kernel_rfl) (by kernel_rfl) (fun _ _ _ h => h) (Or.inl ⟨by rfl, ?_⟩) (⟨HG52.out.c0, hl53⟩) ?_
        rotate_left 1
        · intro w hSw
          (try dsimp only at hSw); have hSa := hSw.1; have hSb := hSw.2; clear hSw
          go_simp
          first
            | done
            | with_reducible rfl
            | rw [if_neg (by omega)]
        try simp only [Act.put, List.setIfInBounds_toArray, List.set_cons_zero, List.set_cons_succ]
        refine wpAnyH_take (i := 13) (oi := { dst := some 109, op := Op.binOp BinOp.add 9 (Operand.tmp 100) (Operand.tmp 108) 9, type := 9, pos := "source.go:220", after := #[{ on := 4, ground := Ground.data }, { on := 12, ground := Ground.data }], guard := none }) (v := ?_) rfl (by kernel_rfl) (by kernel_rfl) (by kernel_rfl) (fun _ _ _ h => h) (Or.inl ⟨by rfl, ?_⟩) (⟨HG52.out.c0, hl53⟩) ?_
        rotate_left 1
        · intro w hSw
          (try dsimp only at hSw); have hSa := hSw.1; have hSb := hSw.2; clear hSw
          go_simp
          first
            | done
            | with_reducible rfl
            | rw [if_neg (by omega)]
        try simp only [Act.put, List.setIfInBounds_toArray, List.set_cons_zero, List.set_cons_succ]
        refine wpAnyH_ready (rs := [17]) (by kernel_rfl) (by simp) ?_
        refine AllReadyH.cons (o := { dst := some 113, op := Op.call { callee := Callee.value (Operand.func 20), args := #[Operand.tmp 110, Operand.tmp 112], argTypes := #[45, 3] }, type := 9, pos := "source.go:220", after := #[{ on := 14, ground := Ground.data }, { on := 16, ground := Ground.data }, { on := 10, ground := Ground.chain }], guard := none }) rfl (fun K hK => ?_) (AllReadyH.nil)
        go_simp
        go_at_call 20
        refine (HP.out _ _ _ _ _ HG52.out HN.out HF.out (by omega)).mono ?_
        rintro e w54 ⟨s54, f54, rfl, hs54, hf54, hg54, hG54, hK54⟩
        have HG54 := Lib.hid hG54
        have HK54 := Lib.hid (HK52.out.trans (hK54.mono fun _ q => .inl q))
        have HB54 := Lib.hid ((hK54.block _ (.inr rfl)).trans HB52.out)
        have hl54 := hlc53.out _ HB54.out
        clear hG54 hK54
        try dsimp only
        have hb54 : s54.size ≤ 500 := by omega
        refine hK.out _ _ (⟨HG54.out.c0, hl54⟩) (fun _ => ?_)
        clear hK K
        try simp only [Act.put, List.setIfInBounds_toArray, List.set_cons_zero, List.set_cons_succ]
        refine wpAnyH_take (i := 18) (oi := { dst := some 114, op := Op.binOp BinOp.add 9 (Operand.tmp 109) (Operand.tmp 113) 9, type := 9, pos := "source.go:220", after := #[{ on := 13, ground := Ground.data }, { on := 17, ground := Ground.data }], guard := none }) (v := ?_) rfl (by kernel_rfl) (by kernel_rfl) (by kernel_rfl) (fun _ _ _ h => h) (Or.inl ⟨by rfl, ?_⟩) (⟨HG54.out.c0, hl54⟩) ?_
        rotate_left 1
        · intro w hSw
          (try dsimp only at hSw); have hSa := hSw.1; have hSb := hSw.2; clear hSw
          go_simp
          first
            | done
            | with_reducible rfl
            | rw [if_neg (by omega)]
        try simp only [Act.put, List.setIfInBounds_toArray, List.set_cons_zero, List.set_cons_succ]
        refine wpAnyH_take (i := 19) (oi := { dst := some 115, op := Op.binOp BinOp.add 9 (Operand.tmp 114) (Operand.const (Value.string { data := #[41] })) 9, type := 9, pos := "source.go:220", after := #[{ on := 18, ground := Ground.data }], guard := none }) (v := ?_) rfl (by kernel_rfl) (by kernel_rfl) (by kernel_rfl) (fun _ _ _ h => h) (Or.inl ⟨by rfl, ?_⟩) (⟨HG54.out.c0, hl54⟩) ?_
        rotate_left 1
        · intro w hSw
          (try dsimp only at hSw); have hSa := hSw.1; have hSb := hSw.2; clear hSw
          go_simp
          first
            | done
            | with_reducible rfl
            | rw [if_neg (by omega)]
        try simp only [Act.put, List.setIfInBounds_toArray, List.set_cons_zero, List.set_cons_succ]
        refine wpAnyH_take (i := 20) (oi := { dst := some 4, op := Op.assign (Operand.tmp 115), type := 9, pos := "source.go:220", after := #[{ on := 19, ground := Ground.data }, { on := 17, ground := Ground.chain }, { on := 0, ground := Ground.phase }, { on := 1, ground := Ground.phase }, { on := 2, ground := Ground.phase }, { on := 3, ground := Ground.phase }, { on := 4, ground := Ground.phase }, { on := 5, ground := Ground.phase }, { on := 6, ground := Ground.phase }, { on := 7, ground := Ground.phase }, { on := 8, ground := Ground.phase }, { on := 9, ground := Ground.phase }, { on := 10, ground := Ground.phase }, { on := 11, ground := Ground.phase }, { on := 12, ground := Ground.phase }, { on := 13, ground := Ground.phase }, { on := 14, ground := Ground.phase }, { on := 15, ground := Ground.phase }, { on := 16, ground := Ground.phase }, { on := 17, ground := Ground.phase }, { on := 18, ground := Ground.phase }, { on := 19, ground := Ground.phase }], guard := none }) (v := ?_) rfl (by kernel_rfl) (by kernel_rfl) (by kernel_rfl) (fun _ _ _ h => h) (Or.inl ⟨by rfl, ?_⟩) (⟨HG54.out.c0, hl54⟩) ?_
        rotate_left 1
        · intro w hSw
          (try dsimp only at hSw); have hSa := hSw.1; have hSb := hSw.2; clear hSw
          go_simp
          first
            | done
            | with_reducible rfl
            | rw [if_neg (by omega)]
        try simp only [Act.put, List.setIfInBounds_toArray, List.set_cons_zero, List.set_cons_succ]
        refine wpAnyH_done (by kernel_rfl) ?_ _
        refine NoPanic.normal ?_
        go_wp2_with fail
        go_ret
        exact ⟨_, f54, rfl, by (try simp [ByteArray.size_append, size_lit]); omega, by omega, by omega, (HG54.out.back hgb51), HK54.out⟩
      · go_simp
        go_at_call 14
        refine (gnext 6 6 rfl (by decide) (by decide) HG50.out HN.out).mono ?_
        rintro e w55 ⟨r55, hr55, rfl, hG55, hK55⟩
        have HG55 := Lib.hid hG55
        have HK55 := Lib.hid (HK50.out.trans hK55)
        clear hG55 hK55
        try dsimp only
        have hx55 : (0 : Int) ≤ (r55 : Int) := by omega
        have hy55 : (r55 : Int) < 6 := by omega
        have hd55 := digS_size r55
        refine hK.out _ _ (HG55.out.c0) (fun _ => ?_)
        clear hK K
        try simp only [Act.put, List.setIfInBounds_toArray, List.set_cons_zero, List.set_cons_succ]
        refine wpAnyH_ready (rs := [5, 17]) (by kernel_rfl) (by simp) ?_
        refine AllReadyH.cons (o := { dst := some 101, op := Op.buildSlice 44 6 #[(0, Operand.const (Value.string { data := #[32, 91, 93, 32] })), (1, Operand.const (Value.string { data := #[32, 124, 126, 124, 32] })), (2, Operand.const (Value.string { data := #[32, 59, 32] })), (3, Operand.const (Value.string { data := #[32, 47, 92, 32] })), (4, Operand.const (Value.string { data := #[32, 91, 62, 32] })), (5, Operand.const (Value.string { data := #[32, 124, 124, 124, 32] }))], type := 44, pos := "source.go:220", after := #[], guard := none }) rfl (fun K hK => ?_) (AllReadyH.cons (o := { dst := some 113, op := Op.call { callee := Callee.value (Operand.func 20), args := #[Operand.tmp 110, Operand.tmp 112], argTypes := #[45, 3] }, type := 9, pos := "source.go:220", after := #[{ on := 14, ground := Ground.data }, { on := 16, ground := Ground.data }, { on := 10, ground := Ground.chain }], guard := none }) rfl (fun K hK => ?_) (AllReadyH.nil))
        · go_simp
          try dsimp only
          have HG56 := Lib.hid (HG55.out.more (strBlock tlL))
          have HK56 := Lib.hid (HK55.out.alloc HL.out (strBlock tlL))
          have HB56 : Hid ((w55.alloc (strBlock tlL)).heap[w55.heap.size]? = some (strBlock tlL)) := heap_alloc_new w55 _
          have hgb56 := HG55.out.gl
          refine hK.out _ (w55.alloc (strBlock tlL)) (HG56.out.c0) (fun _ => ?_)
          clear hK K
          generalize hwe56 : w55.alloc (strBlock tlL) = wl56 at *
          clear hwe56
          generalize hbe56 : w55.heap.size = bl56 at *
          clear hbe56
          try simp only [Act.put, List.setIfInBounds_toArray, List.set_cons_zero, List.set_cons_succ]
          refine wpAnyH_take (i := 11) (oi := { dst := some 107, op := Op.indexAddr 44 (Operand.tmp 101) (Operand.tmp 106), type := 0, pos := "source.go:220", after := #[{ on := 5, ground := Ground.data }, { on := 10, ground := Ground.data }], guard := none }) (v := ?_) rfl (by kernel_rfl) (by kernel_rfl) (by kernel_rfl) (fun _ _ _ h => h) (Or.inl ⟨by rfl, ?_⟩) (HG56.out.c0) ?_
          rotate_left 1
          · intro w hSw
            try dsimp only at hSw
            go_simp
            first
              | done
              | with_reducible rfl
              | rw [if_neg (by omega)]
          try simp only [Act.put, List.setIfInBounds_toArray, List.set_cons_zero, List.set_cons_succ]
          have hl57 : wl56.cell? ⟨bl56, r55, none⟩ = some (.string (S (tlL.getD r55 []))) := str_cell HB56.out r55 (show r55 < tlL.length from hr55)
          have hle57 := tlL_le r55 hr55
          have hlc57 : Hid (∀ W : World, W.heap[bl56]? = some (strBlock tlL) → W.cell? ⟨bl56, r55, none⟩ = some (.string (S (tlL.getD r55 [])))) := Lib.hid (fun W q => str_cell q r55 (show r55 < tlL.length from hr55))
          generalize tlL.getD r55 [] = st57 at *
          refine wpAnyH_stronger (S' := fun W => (W.cell? ⟨X.wb, 0, none⟩ = some (.pointer (some ⟨X.g, 0, none⟩))) ∧ W.cell? ⟨bl56, r55, none⟩ = some (.string (S st57))) (fun _ q => q.1) ?_
          have hlS57 : (S st57).size ≤ 10 := by rw [S_size]; omega
          refine wpAnyH_take (i := 12) (oi := { dst := some 108, op := Op.load 9 (Operand.tmp 107), type := 9, pos := "source.go:220", after := #[{ on := 11, ground := Ground.data }], guard := none }) (v := ?_) rfl (by kernel_rfl) (by kernel_rfl) (by kernel_rfl) (fun _ _ _ h => h) (Or.inl ⟨by rfl, ?_⟩) (⟨HG56.out.c0, hl57⟩) ?_
          rotate_left 1
          · intro w hSw
            (try dsimp only at hSw); have hSa := hSw.1; have hSb := hSw.2; clear hSw
            go_simp
            first
              | done
              | with_reducible rfl
              | rw [if_neg (by omega)]
          try simp only [Act.put, List.setIfInBounds_toArray, List.set_cons_zero, List.set_cons_succ]
          refine wpAnyH_take (i := 13) (oi := { dst := some 109, op := Op.binOp BinOp.add 9 (Operand.tmp 100) (Operand.tmp 108) 9, type := 9, pos := "source.go:220", after := #[{ on := 4, ground := Ground.data }, { on := 12, ground := Ground.data }], guard := none }) (v := ?_) rfl (by kernel_rfl) (by kernel_rfl) (by kernel_rfl) (fun _ _ _ h => h) (Or.inl ⟨by rfl, ?_⟩) (⟨HG56.out.c0, hl57⟩) ?_
          rotate_left 1
          · intro w hSw
            (try dsimp only at hSw); have hSa := hSw.1; have hSb := hSw.2; clear hSw
            go_simp
            first
              | done
              | with_reducible rfl
              | rw [if_neg (by omega)]
          try simp only [Act.put, List.setIfInBounds_toArray, List.set_cons_zero, List.set_cons_succ]
          refine wpAnyH_ready (rs := [17]) (by kernel_rfl) (by simp) ?_
          refine AllReadyH.cons (o := { dst := some 113, op := Op.call { callee := Callee.value (Operand.func 20), args := #[Operand.tmp 110, Operand.tmp 112], argTypes := #[45, 3] }, type := 9, pos := "source.go:220", after := #[{ on := 14, ground := Ground.data }, { on := 16, ground := Ground.data }, { on := 10, ground := Ground.chain }], guard := none }) rfl (fun K hK => ?_) (AllReadyH.nil)
          go_simp
          go_at_call 20
          refine (HP.out _ _ _ _ _ HG56.out HN.out HF.out (by omega)).mono ?_
          rintro e w58 ⟨s58, f58, rfl, hs58, hf58, hg58, hG58, hK58⟩
          have HG58 := Lib.hid hG58
          have HK58 := Lib.hid (HK56.out.trans (hK58.mono fun _ q => .inl q))
          have HB58 := Lib.hid ((hK58.block _ (.inr rfl)).trans HB56.out)
          have hl58 := hlc57.out _ HB58.out
          clear hG58 hK58
          try dsimp only
          have hb58 : s58.size ≤ 500 := by omega
          refine hK.out _ _ (⟨HG58.out.c0, hl58⟩) (fun _ => ?_)
          clear hK K
          try simp only [Act.put, List.setIfInBounds_toArray, List.set_cons_zero, List.set_cons_succ]
          refine wpAnyH_take (i := 18) (oi := { dst := some 114, op := Op.binOp BinOp.add 9 (Operand.tmp 109) (Operand.tmp 113) 9, type := 9, pos := "source.go:220", after := #[{ on := 13, ground := Ground.data }, { on := 17, ground := Ground.data }], guard := none }) (v := ?_) rfl (by kernel_rfl) (by kernel_rfl) (by kernel_rfl) (fun _ _ _ h => h) (Or.inl ⟨by rfl, ?_⟩) (⟨HG58.out.c0, hl58⟩) ?_
          rotate_left 1
          · intro w hSw
            (try dsimp only at hSw); have hSa := hSw.1; have hSb := hSw.2; clear hSw
            go_simp
            first
              | done
              | with_reducible rfl
              | rw [if_neg (by omega)]
          try simp only [Act.put, List.setIfInBounds_toArray, List.set_cons_zero, List.set_cons_succ]
          refine wpAnyH_take (i := 19) (oi := { dst := some 115, op := Op.binOp BinOp.add 9 (Operand.tmp 114) (Operand.const (Value.string { data := #[41] })) 9, type := 9, pos := "source.go:220", after := #[{ on := 18, ground := Ground.data }], guard := none }) (v := ?_) rfl (by kernel_rfl) (by kernel_rfl) (by kernel_rfl) (fun _ _ _ h => h) (Or.inl ⟨by rfl, ?_⟩) (⟨HG58.out.c0, hl58⟩) ?_
          rotate_left 1
          · intro w hSw
            (try dsimp only at hSw); have hSa := hSw.1; have hSb := hSw.2; clear hSw
            go_simp
            first
              | done
              | with_reducible rfl
              | rw [if_neg (by omega)]
          try simp only [Act.put, List.setIfInBounds_toArray, List.set_cons_zero, List.set_cons_succ]
          refine wpAnyH_take (i := 20) (oi := { dst := some 4, op := Op.assign (Operand.tmp 115), type := 9, pos := "source.go:220", after := #[{ on := 19, ground := Ground.data }, { on := 17, ground := Ground.chain }, { on := 0, ground := Ground.phase }, { on := 1, ground := Ground.phase }, { on := 2, ground := Ground.phase }, { on := 3, ground := Ground.phase }, { on := 4, ground := Ground.phase }, { on := 5, ground := Ground.phase }, { on := 6, ground := Ground.phase }, { on := 7, ground := Ground.phase }, { on := 8, ground := Ground.phase }, { on := 9, ground := Ground.phase }, { on := 10, ground := Ground.phase }, { on := 11, ground := Ground.phase }, { on := 12, ground := Ground.phase }, { on := 13, ground := Ground.phase }, { on := 14, ground := Ground.phase }, { on := 15, ground := Ground.phase }, { on := 16, ground := Ground.phase }, { on := 17, ground := Ground.phase }, { on := 18, ground := Ground.phase }, { on := 19, ground := Ground.phase }], guard := none }) (v := ?_) rfl (by kernel_rfl) (by kernel_rfl) (by kernel_rfl) (fun _ _ _ h => h) (Or.inl ⟨by rfl, ?_⟩) (⟨HG58.out.c0, hl58⟩) ?_
          rotate_left 1
          · intro w hSw
            (try dsimp only at hSw); have hSa := hSw.1; have hSb := hSw.2; clear hSw
            go_simp
            first
              | done
              | with_reducible rfl
              | rw [if_neg (by omega)]
          try simp only [Act.put, List.setIfInBounds_toArray, List.set_cons_zero, List.set_cons_succ]
          refine wpAnyH_done (by kernel_rfl) ?_ _
          refine NoPanic.normal ?_
          go_wp2_with fail
          go_ret
          exact ⟨_, f58, rfl, by (try simp [ByteArray.size_append, size_lit]); omega, by omega, by omega, (HG58.out.back hgb56), HK58.out⟩
        · go_simp
          go_at_call 20
          refine (HP.out _ _ _ _ _ HG55.out HN.out HF.out (by omega)).mono ?_
          rintro e w59 ⟨s59, f59, rfl, hs59, hf59, hg59, hG59, hK59⟩
          have HG59 := Lib.hid hG59
          have HK59 := Lib.hid (HK55.out.trans hK59)
          clear hG59 hK59
          try dsimp only
          have hb59 : s59.size ≤ 500 := by omega
          refine hK.out _ _ (HG59.out.c0) (fun _ => ?_)
          clear hK K
          try simp only [Act.put, List.setIfInBounds_toArray, List.set_cons_zero, List.set_cons_succ]
          refine wpAnyH_ready (rs := [5]) (by kernel_rfl) (by simp) ?_
          refine AllReadyH.cons (o := { dst := some 101, op := Op.buildSlice 44 6 #[(0, Operand.const (Value.string { data := #[32, 91, 93, 32] })), (1, Operand.const (Value.string { data := #[32, 124, 126, 124, 32] })), (2, Operand.const (Value.string { data := #[32, 59, 32] })), (3, Operand.const (Value.string { data := #[32, 47, 92, 32] })), (4, Operand.const (Value.string { data := #[32, 91, 62, 32] })), (5, Operand.const (Value.string { data := #[32, 124, 124, 124, 32] }))], type := 44, pos := "source.go:220", after := #[], guard := none }) rfl (fun K hK => ?_) (AllReadyH.nil)
          go_simp
          try dsimp only
          have HG60 := Lib.hid (HG59.out.more (strBlock tlL))
          have HK60 := Lib.hid (HK59.out.alloc HL.out (strBlock tlL))
          have HB60 : Hid ((w59.alloc (strBlock tlL)).heap[w59.heap.size]? = some (strBlock tlL)) := heap_alloc_new w59 _
          have hgb60 := HG59.out.gl
          refine hK.out _ (w59.alloc (strBlock tlL)) (HG60.out.c0) (fun _ => ?_)
          clear hK K
          generalize hwe60 : w59.alloc (strBlock tlL) = wl60 at *
          clear hwe60
          generalize hbe60 : w59.heap.size = bl60 at *
          clear hbe60
          try simp only [Act.put, List.setIfInBounds_toArray, List.set_cons_zero, List.set_cons_succ]
          refine wpAnyH_take (i := 11) (oi := { dst := some 107, op := Op.indexAddr 44 (Operand.tmp 101) (Operand.tmp 106), type := 0, pos := "source.go:220", after := #[{ on := 5, ground := Ground.data }, { on := 10, ground := Ground.data }], guard := none }) (v := ?_) rfl (by kernel_rfl) (by kernel_rfl) (by kernel_rfl) (fun _ _ _ h => h) (Or.inl ⟨by rfl, ?_⟩) (HG60.out.c0) ?_
          rotate_left 1
          · intro w hSw
            try dsimp only at hSw
            go_simp
            first
              | done
              | with_reducible rfl
              | rw [if_neg (by omega)]
          try simp only [Act.put, List.setIfInBounds_toArray, List.set_cons_zero, List.set_cons_succ]
          have hl61 : wl60.cell? ⟨bl60, r55, none⟩ = some (.string (S (tlL.getD r55 []))) := str_cell HB60.out r55 (show r55 < tlL.length from hr55)
          have hle61 := tlL_le r55 hr55
          have hlc61 : Hid (∀ W : World, W.heap[bl60]? = some (strBlock tlL) → W.cell? ⟨bl60, r55, none⟩ = some (.string (S (tlL.getD r55 [])))) := Lib.hid (fun W q => str_cell q r55 (show r55 < tlL.length from hr55))
          generalize tlL.getD r55 [] = st61 at *
          refine wpAnyH_stronger (S' := fun W => (W.cell? ⟨X.wb, 0, none⟩ = some (.pointer (some ⟨X.g, 0, none⟩))) ∧ W.cell? ⟨bl60, r55, none⟩ = some (.string (S st61))) (fun _ q => q.1) ?_
          have hlS61 : (S st61).size ≤ 10 := by rw [S_size]; omega
          refine wpAnyH_take (i := 12) (oi := { dst := some 108, op := Op.load 9 (Operand.tmp 107), type := 9, pos := "source.go:220", after := #[{ on := 11, ground := Ground.data }], guard := none }) (v := ?_) rfl (by kernel_rfl) (by kernel_rfl) (by kernel_rfl) (fun _ _ _ h => h) (Or.inl ⟨by rfl, ?_⟩) (⟨HG60.out.c0, hl61⟩) ?_
          rotate_left 1
          · intro w hSw
            (try dsimp only at hSw); have hSa := hSw.1; have hSb := hSw.2; clear hSw
            go_simp
            first
              | done
              | with_reducible rfl
              | rw [if_neg (by omega)]
          try simp only [Act.put, List.setIfInBounds_toArray, List.set_cons_zero, List.set_cons_succ]
          refine wpAnyH_take (i := 13) (oi := { dst := some 109, op := Op.binOp BinOp.add 9 (Operand.tmp 100) (Operand.tmp 108) 9, type := 9, pos := "source.go:220", after := #[{ on := 4, ground := Ground.data }, { on := 12, ground := Ground.data }], guard := none }) (v := ?_) rfl (by kernel_rfl) (by kernel_rfl) (by kernel_rfl) (fun _ _ _ h => h) (Or.inl ⟨by rfl, ?_⟩) (⟨HG60.out.c0, hl61⟩) ?_
          rotate_left 1
          · intro w hSw
            (try dsimp only at hSw); have hSa := hSw.1; have hSb := hSw.2; clear hSw
            go_simp
            first
              | done
              | with_reducible rfl
              | rw [if_neg (by omega)]
          try simp only [Act.put, List.setIfInBounds_toArray, List.set_cons_zero, List.set_cons_succ]
          refine wpAnyH_take (i := 18) (oi := { dst := some 114, op := Op.binOp BinOp.add 9 (Operand.tmp 109) (Operand.tmp 113) 9, type := 9, pos := "source.go:220", after := #[{ on := 13, ground := Ground.data }, { on := 17, ground := Ground.data }], guard := none }) (v := ?_) rfl (by kernel_rfl) (by kernel_rfl) (by kernel_rfl) (fun _ _ _ h => h) (Or.inl ⟨by rfl, ?_⟩) (⟨HG60.out.c0, hl61⟩) ?_
          rotate_left 1
          · intro w hSw
            (try dsimp only at hSw); have hSa := hSw.1; have hSb := hSw.2; clear hSw
            go_simp
            first
              | done
              | with_reducible rfl
              | rw [if_neg (by omega)]
          try simp only [Act.put, List.setIfInBounds_toArray, List.set_cons_zero, List.set_cons_succ]
          refine wpAnyH_take (i := 19) (oi := { dst := some 115, op := Op.binOp BinOp.add 9 (Operand.tmp 114) (Operand.const (Value.string { data := #[41] })) 9, type := 9, pos := "source.go:220", after := #[{ on := 18, ground := Ground.data }], guard := none }) (v := ?_) rfl (by kernel_rfl) (by kernel_rfl) (by kernel_rfl) (fun _ _ _ h => h) (Or.inl ⟨by rfl, ?_⟩) (⟨HG60.out.c0, hl61⟩) ?_
          rotate_left 1
          · intro w hSw
            (try dsimp only at hSw); have hSa := hSw.1; have hSb := hSw.2; clear hSw
            go_simp
            first
              | done
              | with_reducible rfl
              | rw [if_neg (by omega)]
          try simp only [Act.put, List.setIfInBounds_toArray, List.set_cons_zero, List.set_cons_succ]
          refine wpAnyH_take (i := 20) (oi := { dst := some 4, op := Op.assign (Operand.tmp 115), type := 9, pos := "source.go:220", after := #[{ on := 19, ground := Ground.data }, { on := 17, ground := Ground.chain }, { on := 0, ground := Ground.phase }, { on := 1, ground := Ground.phase }, { on := 2, ground := Ground.phase }, { on := 3, ground := Ground.phase }, { on := 4, ground := Ground.phase }, { on := 5, ground := Ground.phase }, { on := 6, ground := Ground.phase }, { on := 7, ground := Ground.phase }, { on := 8, ground := Ground.phase }, { on := 9, ground := Ground.phase }, { on := 10, ground := Ground.phase }, { on := 11, ground := Ground.phase }, { on := 12, ground := Ground.phase }, { on := 13, ground := Ground.phase }, { on := 14, ground := Ground.phase }, { on := 15, ground := Ground.phase }, { on := 16, ground := Ground.phase }, { on := 17, ground := Ground.phase }, { on := 18, ground := Ground.phase }, { on := 19, ground := Ground.phase }], guard := none }) (v := ?_) rfl (by kernel_rfl) (by kernel_rfl) (by kernel_rfl) (fun _ _ _ h => h) (Or.inl ⟨by rfl, ?_⟩) (⟨HG60.out.c0, hl61⟩) ?_
          rotate_left 1
          · intro w hSw
            (try dsimp only at hSw); have hSa := hSw.1; have hSb := hSw.2; clear hSw
            go_simp
            first
              | done
              | with_reducible rfl
              | rw [if_neg (by omega)]
          try simp only [Act.put, List.setIfInBounds_toArray, List.set_cons_zero, List.set_cons_succ]
          refine wpAnyH_done (by kernel_rfl) ?_ _
          refine NoPanic.normal ?_
          go_wp2_with fail
          go_ret
          exact ⟨_, f59, rfl, by (try simp [ByteArray.size_append, size_lit]); omega, by omega, by omega, (HG60.out.back hgb60), HK60.out⟩
    · go_simp
      try dsimp only
      have HG62 := Lib.hid (HGd.out.more (strBlock tlL))
      have HK62 := Lib.hid (HKd.out.alloc HL.out (strBlock tlL))
      have HB62 : Hid ((wd.alloc (strBlock tlL)).heap[wd.heap.size]? = some (strBlock tlL)) := heap_alloc_new wd _
      have hgb62 := HGd.out.gl
      refine hK.out _ (wd.alloc (strBlock tlL)) (HG62.out.c0) (fun _ => ?_)
      clear hK K
      generalize hwe62 : wd.alloc (strBlock tlL) = wl62 at *
      clear hwe62
      generalize hbe62 : wd.heap.size = bl62 at *
      clear hbe62
      try simp only [Act.put, List.setIfInBounds_toArray, List.set_cons_zero, List.set_cons_succ]
      refine wpAnyH_ready (rs := [3]) (by kernel_rfl) (by simp) ?_
      refine AllReadyH.cons (o := { dst := some 99, op := Op.call { callee := Callee.value (Operand.func 20), args := #[Operand.tmp 96, Operand.tmp 98], argTypes := #[45, 3] }, type := 9, pos := "source.go:220", after := #[{ on := 0, ground := Ground.data }, { on := 2, ground := Ground.data }], guard := none }) rfl (fun K hK => ?_) (AllReadyH.nil)
      go_simp
      go_at_call 20
      refine (HP.out _ _ _ _ _ HG62.out HN.out HF.out (by omega)).mono ?_
      rintro e w63 ⟨s63, f63, rfl, hs63, hf63, hg63, hG63, hK63⟩
      have HG63 := Lib.hid hG63
      have HK63 := Lib.hid (HK62.out.trans (hK63.mono fun _ q => .inl q))
      have HB63 := Lib.hid ((hK63.block _ (.inr rfl)).trans HB62.out)
      clear hG63 hK63
      try dsimp only
      have hb63 : s63.size ≤ 500 := by omega
      refine hK.out _ _ (HG63.out.c0) (fun _ => ?_)
      clear hK K
      try simp only [Act.put, List.setIfInBounds_toArray, List.set_cons_zero, List.set_cons_succ]
      refine wpAnyH_take (i := 4) (oi := { dst := some 100, op := Op.binOp BinOp.add 9 (Operand.const (Value.string { data := #[40] })) (Operand.tmp 99) 9, type := 9, pos := "source.go:220", after := #[{ on := 3, ground := Ground.data }], guard := none }) (v := ?_) rfl (by kernel_rfl) (by kernel_rfl) (by kernel_rfl) (fun _ _ _ h => h) (Or.inl ⟨by rfl, ?_⟩) (HG63.out.c0) ?_
      rotate_left 1
      · intro w hSw
        try dsimp only at hSw
        go_simp
        first
          | done
          | with_reducible rfl
          | rw [if_neg (by omega)]
      try simp only [Act.put, List.setIfInBounds_toArray, List.set_cons_zero, List.set_cons_succ]
      refine wpAnyH_ready (rs := [10]) (by kernel_rfl) (by simp) ?_
      refine AllReadyH.cons (o := { dst := some 106, op := Op.call { callee := Callee.value (Operand.func 14), args := #[Operand.tmp 105, Operand.const (Value.int IntKind.i64 6)], argTypes := #[40, 3] }, type := 3, pos := "source.go:220", after := #[{ on := 9, ground := Ground.data }, { on := 3, ground := Ground.chain }], guard := none }) rfl (fun K hK => ?_) (AllReadyH.nil)
      go_simp
      go_at_call 14
      refine (gnext 6 6 rfl (by decide) (by decide) HG63.out HN.out).mono ?_
      rintro e w64 ⟨r64, hr64, rfl, hG64, hK64⟩
      have HG64 := Lib.hid hG64
      have HK64 := Lib.hid (HK63.out.trans (hK64.mono fun _ q => .inl q))
      have HB64 := Lib.hid ((hK64.block _ (.inr rfl)).trans HB63.out)
      clear hG64 hK64
      try dsimp only
      have hx64 : (0 : Int) ≤ (r64 : Int) := by omega
      have hy64 : (r64 : Int) < 6 := by omega
      have hd64 := digS_size r64
      refine hK.out _ _ (HG64.out.c0) (fun _ => ?_)
      clear hK K
      try simp only [Act.put, List.setIfInBounds_toArray, List.set_cons_zero, List.set_cons_succ]
      refine wpAnyH_take (i := 11) (oi := { dst := some 107, op := Op.indexAddr 44 (Operand.tmp 101) (Operand.tmp 106), type := 0, pos := "source.go:220", after := #[{ on := 5, ground := Ground.data }, { on := 10, ground := Ground.data }], guard := none }) (v := ?_) rfl (by kernel_rfl) (by kernel_rfl) (by kernel_rfl) (fun _ _ _ h => h) (Or.inl ⟨by rfl, ?_⟩) (HG64.out.c0) ?_
      rotate_left 1
      · intro w hSw
        try dsimp only at hSw
        go_simp
        first
          | done
          | with_reducible rfl
          | rw [if_neg (by omega)]
      try simp only [Act.put, List.setIfInBounds_toArray, List.set_cons_zero, List.set_cons_succ]
      have hl65 : w64.cell? ⟨bl62, r64, none⟩ = some (.string (S (tlL.getD r64 []))) := str_cell HB64.out r64 (show r64 < tlL.length from hr64)
      have hle65 := tlL_le r64 hr64
      have hlc65 : Hid (∀ W : World, W.heap[bl62]? = some (strBlock tlL) → W.cell? ⟨bl62, r64, none⟩ = some (.string (S (tlL.getD r64 [])))) := Lib.hid (fun W q => str_cell q r64 (show r64 < tlL.length from hr64))
      generalize tlL.getD r64 [] = st65 at *
      refine wpAnyH_stronger (S' := fun W => (W.cell? ⟨X.wb, 0, none⟩ = some (.pointer (some ⟨X.g, 0, none⟩))) ∧ W.cell? ⟨bl62, r64, none⟩ = some (.string (S st65))) (fun _ q => q.1) ?_
      have hlS65 : (S st65).size ≤ 10 := by rw [S_size]; omega
      refine wpAnyH_take (i := 12) (oi := { dst := some 108, op := Op.load 9 (Operand.tmp 107), type := 9, pos := "source.go:220", after := #[{ on := 11, ground := Ground.data }], guard := none }) (v := ?_) rfl (by kernel_rfl) (by kernel_rfl) (by kernel_rfl) (fun _ _ _ h => h) (Or.inl ⟨by rfl, ?_⟩) (⟨HG64.out.c0, hl65⟩) ?_
      rotate_left 1
      · intro w hSw
        (try dsimp only at hSw); have hSa := hSw.1; have hSb := hSw.2; clear hSw
        go_simp
        first
          | done
          | with_reducible rfl
          | rw [if_neg (by omega)]
      try simp only [Act.put, List.setIfInBounds_toArray, List.set_cons_zero, List.set_cons_succ]
      refine wpAnyH_take (i := 13) (oi := { dst := some 109, op := Op.binOp BinOp.add 9 (Operand.tmp 100) (Operand.tmp 108) 9, type := 9, pos := "source.go:220", after := #[{ on := 4, ground := Ground.data }, { on := 12, ground := Ground.data }], guard := none }) (v := ?_) rfl (by kernel_rfl) (by kernel_rfl) (by kernel_rfl) (fun _ _ _ h => h) (Or.inl ⟨by rfl, ?_⟩) (⟨HG64.out.c0, hl65⟩) ?_
      rotate_left 1
      · intro w hSw
        (try dsimp only at hSw); have hSa := hSw.1; have hSb := hSw.2; clear hSw
        go_simp
        first
          | done
          | with_reducible rfl
          | rw [if_neg (by omega)]
      try simp only [Act.put, List.setIfInBounds_toArray, List.set_cons_zero, List.set_cons_succ]
      refine wpAnyH_ready (rs := [17]) (by kernel_rfl) (by simp) ?_
      refine AllReadyH.cons (o := { dst := some 113, op := Op.call { callee := Callee.value (Operand.func 20), args := #[Operand.tmp 110, Operand.tmp 112], argTypes := #[45, 3] }, type := 9, pos := "source.go:220", after := #[{ on := 14, ground := Ground.data }, { on := 16, ground := Ground.data }, { on := 10, ground := Ground.chain }], guard := none }) rfl (fun K hK => ?_) (AllReadyH.nil)
      go_simp
      go_at_call 20
      refine (HP.out _ _ _ _ _ HG64.out HN.out HF.out (by omega)).mono ?_
      rintro e w66 ⟨s66, f66, rfl, hs66, hf66, hg66, hG66, hK66⟩
      have HG66 := Lib.hid hG66
      have HK66 := Lib.hid (HK64.out.trans (hK66.mono fun _ q => .inl q))
      have HB66 := Lib.hid ((hK66.block _ (.inr rfl)).trans HB64.out)
      have hl66 := hlc65.out _ HB66.out
      clear hG66 hK66
      try dsimp only
      have hb66 : s66.size ≤ 500 := by omega
      refine hK.out _ _ (⟨HG66.out.c0, hl66⟩) (fun _ => ?_)
      clear hK K
      try simp only [Act.put, List.setIfInBounds_toArray, List.set_cons_zero, List.set_cons_succ]
      refine wpAnyH_take (i := 18) (oi := { dst := some 114, op := Op.binOp BinOp.add 9 (Operand.tmp 109) (Operand.tmp 113) 9, type := 9, pos := "source.go:220", after := #[{ on := 13, ground := Ground.data }, { on := 17, ground := Ground.data }], guard := none }) (v := ?_) rfl (by kernel_rfl) (by kernel_rfl) (by kernel_rfl) (fun _ _ _ h => h) (Or.inl ⟨by rfl, ?_⟩) (⟨HG66.out.c0, hl66⟩) ?_
      rotate_left 1
      · intro w hSw
        (try dsimp only at hSw); have hSa := hSw.1; have hSb := hSw.2; clear hSw
        go_simp
        first
          | done
          | with_reducible rfl
          | rw [if_neg (by omega)]
      try simp only [Act.put, List.setIfInBounds_toArray, List.set_cons_zero, List.set_cons_succ]
      refine wpAnyH_take (i := 19) (oi := { dst := some 115, op := Op.binOp BinOp.add 9 (Operand.tmp 114) (Operand.const (Value.string { data := #[41] })) 9, type := 9, pos := "source.go:220", after := #[{ on := 18, ground := Ground.data }], guard := none }) (v := ?_) rfl (by kernel_rfl) (by kernel_rfl) (by kernel_rfl) (fun _ _ _ h => h) (Or.inl ⟨by rfl, ?_⟩) (⟨HG66.out.c0, hl66⟩) ?_
      rotate_left 1
      · intro w hSw
        (try dsimp only at hSw); have hSa := hSw.1; have hSb := hSw.2; clear hSw
        go_simp
        first
          | done
          | with_reducible rfl
          | rw [if_neg (by omega)]
      try simp only [Act.put, List.setIfInBounds_toArray, List.set_cons_zero, List.set_cons_succ]
      refine wpAnyH_take (i := 20) (oi := { dst := some 4, op := Op.assign (Operand.tmp 115), type := 9, pos := "source.go:220", after := #[{ on := 19, ground := Ground.data }, { on := 17, ground := Ground.chain }, { on := 0, ground := Ground.phase }, { on := 1, ground := Ground.phase }, { on := 2, ground := Ground.phase }, { on := 3, ground := Ground.phase }, { on := 4, ground := Ground.phase }, { on := 5, ground := Ground.phase }, { on := 6, ground := Ground.phase }, { on := 7, ground := Ground.phase }, { on := 8, ground := Ground.phase }, { on := 9, ground := Ground.phase }, { on := 10, ground := Ground.phase }, { on := 11, ground := Ground.phase }, { on := 12, ground := Ground.phase }, { on := 13, ground := Ground.phase }, { on := 14, ground := Ground.phase }, { on := 15, ground := Ground.phase }, { on := 16, ground := Ground.phase }, { on := 17, ground := Ground.phase }, { on := 18, ground := Ground.phase }, { on := 19, ground := Ground.phase }], guard := none }) (v := ?_) rfl (by kernel_rfl) (by kernel_rfl) (by kernel_rfl) (fun _ _ _ h => h) (Or.inl ⟨by rfl, ?_⟩) (⟨HG66.out.c0, hl66⟩) ?_
      rotate_left 1
      · intro w hSw
        (try dsimp only at hSw); have hSa := hSw.1; have hSb := hSw.2; clear hSw
        go_simp
        first
          | done
          | with_reducible rfl
          | rw [if_neg (by omega)]
      try simp only [Act.put, List.setIfInBounds_toArray, List.set_cons_zero, List.set_cons_succ]
      refine wpAnyH_done (by kernel_rfl) ?_ _
      refine NoPanic.normal ?_
      go_wp2_with fail
      go_ret
      exact ⟨_, f66, rfl, by (try simp [ByteArray.size_append, size_lit]); omega, by omega, by omega, (HG66.out.back hgb62), HK66.out⟩
  · go_wp2_with fail
    have HGd := Lib.hid HG1.out.drew
    have HKd := Lib.hid HK1.out.drew
    refine wp_region_noPanic ?_
    refine wp_region_held_drew (S := fun W => W.cell? ⟨X.wb, 0, none⟩ = some (.pointer (some ⟨X.g, 0, none⟩))) (by kernel_rfl) (HGd.out.c0) (fun _ => ?_)
    generalize w1.drew = wd at *
    try simp only [Act.put, List.setIfInBounds_toArray, List.set_cons_zero, List.set_cons_succ]
    refine wpAnyH_take (i := 0) (oi := { dst := some 96, op := Op.move (Operand.tmp 0), type := 45, pos := "source.go:220", after := #[], guard := none }) (v := ?_) rfl (by kernel_rfl) (by kernel_rfl) (by kernel_rfl) (fun _ _ _ h => h) (Or.inl ⟨by rfl, ?_⟩) (HGd.out.c0) ?_
    rotate_left 1
    · intro w hSw
      try dsimp only at hSw
      go_simp
      first
        | done
        | with_reducible rfl
        | rw [if_neg (by omega)]
    try simp only [Act.put, List.setIfInBounds_toArray, List.set_cons_zero, List.set_cons_succ]
    refine wpAnyH_take (i := 1) (oi := { dst := some 97, op := Op.move (Operand.tmp 1), type := 3, pos := "source.go:220", after := #[], guard := none }) (v := ?_) rfl (by kernel_rfl) (by kernel_rfl) (by kernel_rfl) (fun _ _ _ h => h) (Or.inl ⟨by rfl, ?_⟩) (HGd.out.c0) ?_
    rotate_left 1
    · intro w hSw
      try dsimp only at hSw
      go_simp
      first
        | done
        | with_reducible rfl
        | rw [if_neg (by omega)]
    try simp only [Act.put, List.setIfInBounds_toArray, List.set_cons_zero, List.set_cons_succ]
    refine wpAnyH_take (i := 2) (oi := { dst := some 98, op := Op.binOp BinOp.sub 3 (Operand.tmp 97) (Operand.const (Value.int IntKind.i64 1)) 3, type := 3, pos := "source.go:220", after := #[{ on := 1, ground := Ground.data }], guard := none }) (v := ?_) rfl (by kernel_rfl) (by kernel_rfl) (by kernel_rfl) (fun _ _ _ h => h) (Or.inl ⟨by rfl, ?_⟩) (HGd.out.c0) ?_
    rotate_left 1
    · intro w hSw
      try dsimp only at hSw
      go_simp
      first
        | done
        | with_reducible rfl
        | rw [if_neg (by omega)]
    try simp only [Act.put, List.setIfInBounds_toArray, List.set_cons_zero, List.set_cons_succ]
    refine wpAnyH_take (i := 6) (oi := { dst := some 102, op := Op.move (Operand.tmp 0), type := 45, pos := "source.go:220", after := #[], guard := none }) (v := ?_) rfl (by kernel_rfl) (by kernel_rfl) (by kernel_rfl) (fun _ _ _ h => h) (Or.inl ⟨by rfl, ?_⟩) (HGd.out.c0) ?_
    rotate_left 1
    · intro w hSw
      try dsimp only at hSw
      go_simp
      first
        | done
        | with_reducible rfl
        | rw [if_neg (by omega)]
    try simp only [Act.put, List.setIfInBounds_toArray, List.set_cons_zero, List.set_cons_succ]
    refine wpAnyH_take (i := 7) (oi := { dst := some 103, op := Op.nilCheck (Operand.tmp 102), type := 0, pos := "source.go:220", after := #[{ on := 6, ground := Ground.data }], guard := none }) (v := ?_) rfl (by kernel_rfl) (by kernel_rfl) (by kernel_rfl) (fun _ _ _ h => h) (Or.inl ⟨by rfl, ?_⟩) (HGd.out.c0) ?_
    rotate_left 1
    · intro w hSw
      try dsimp only at hSw
      go_simp
      first
        | done
        | with_reducible rfl
        | rw [if_neg (by omega)]
    try simp only [Act.put, List.setIfInBounds_toArray, List.set_cons_zero, List.set_cons_succ]
    refine wpAnyH_take (i := 8) (oi := { dst := some 104, op := Op.fieldAddr 47 (Operand.tmp 103) 0, type := 0, pos := "source.go:220", after := #[{ on := 7, ground := Ground.data }], guard := none }) (v := ?_) rfl (by kernel_rfl) (by kernel_rfl) (by kernel_rfl) (fun _ _ _ h => h) (Or.inl ⟨by rfl, ?_⟩) (HGd.out.c0) ?_
    rotate_left 1
    · intro w hSw
      try dsimp only at hSw
      go_simp
      first
        | done
        | with_reducible rfl
        | rw [if_neg (by omega)]
    try simp only [Act.put, List.setIfInBounds_toArray, List.set_cons_zero, List.set_cons_succ]
    refine wpAnyH_take (i := 9) (oi := { dst := some 105, op := Op.load 40 (Operand.tmp 104), type := 40, pos := "source.go:220", after := #[{ on := 8, ground := Ground.data }], guard := none }) (v := ?_) rfl (by kernel_rfl) (by kernel_rfl) (by kernel_rfl) (fun _ _ _ h => h) (Or.inl ⟨by rfl, ?_⟩) (HGd.out.c0) ?_
    rotate_left 1
    · intro w hSw
      try dsimp only at hSw
      go_simp
      first
        | done
        | with_reducible rfl
        | rw [if_neg (by omega)]
    try simp only [Act.put, List.setIfInBounds_toArray, List.set_cons_zero, List.set_cons_succ]
    refine wpAnyH_take (i := 14) (oi := { dst := some 110, op := Op.move (Operand.tmp 0), type := 45, pos := "source.go:220", after := #[], guard := none }) (v := ?_) rfl (by kernel_rfl) (by kernel_rfl) (by kernel_rfl) (fun _ _ _ h => h) (Or.inl ⟨by rfl, ?_⟩) (HGd.out.c0) ?_
    rotate_left 1
    · intro w hSw
      try dsimp only at hSw
      go_simp
      first
        | done
        | with_reducible rfl
        | rw [if_neg (by omega)]
    try simp only [Act.put, List.setIfInBounds_toArray, List.set_cons_zero, List.set_cons_succ]
    refine wpAnyH_take (i := 15) (oi := { dst := some 111, op := Op.move (Operand.tmp 1), type := 3, pos := "source.go:220", after := #[], guard := none }) (v := ?_) rfl (by kernel_rfl) (by kernel_rfl) (by kernel_rfl) (fun _ _ _ h => h) (Or.inl ⟨by rfl, ?_⟩) (HGd.out.c0) ?_
    rotate_left 1
    · intro w hSw
      try dsimp only at hSw
      go_simp
      first
        | done
        | with_reducible rfl
        | rw [if_neg (by omega)]
    try simp only [Act.put, List.setIfInBounds_toArray, List.set_cons_zero, List.set_cons_succ]
    refine wpAnyH_take (i := 16) (oi := { dst := some 112, op := Op.binOp BinOp.sub 3 (Operand.tmp 111) (Operand.const (Value.int IntKind.i64 1)) 3, type := 3, pos := "source.go:220", after := #[{ on := 15, ground := Ground.data }], guard := none }) (v := ?_) rfl (by kernel_rfl) (by kernel_rfl) (by kernel_rfl) (fun _ _ _ h => h) (Or.inl ⟨by rfl, ?_⟩) (HGd.out.c0) ?_
    rotate_left 1
    · intro w hSw
      try dsimp only at hSw
      go_simp
      first
        | done
        | with_reducible rfl
        | rw [if_neg (by omega)]
    try simp only [Act.put, List.setIfInBounds_toArray, List.set_cons_zero, List.set_cons_succ]
    refine wpAnyH_ready (rs := [3, 5]) (by kernel_rfl) (by simp) ?_
    refine AllReadyH.cons (o := { dst := some 99, op := Op.call { callee := Callee.value (Operand.func 20), args := #[Operand.tmp 96, Operand.tmp 98], argTypes := #[45, 3] }, type := 9, pos := "source.go:220", after := #[{ on := 0, ground := Ground.data }, { on := 2, ground := Ground.data }], guard := none }) rfl (fun K hK => ?_) (AllReadyH.cons (o := { dst := some 101, op := Op.buildSlice 44 6 #[(0, Operand.const (Value.string { data := #[32, 91, 93, 32] })), (1, Operand.const (Value.string { data := #[32, 124, 126, 124, 32] })), (2, Operand.const (Value.string { data := #[32, 59, 32] })), (3, Operand.const (Value.string { data := #[32, 47, 92, 32] })), (4, Operand.const (Value.string { data := #[32, 91, 62, 32] })), (5, Operand.const (Value.string { data := #[32, 124, 124, 124, 32] }))], type := 44, pos := "source.go:220", after := #[], guard := none }) rfl (fun K hK => ?_) (AllReadyH.nil))
    · go_simp
      go_at_call 20
      refine (HP.out _ _ _ _ _ HGd.out HN.out HF.out (by omega)).mono ?_
      rintro e w50 ⟨s50, f50, rfl, hs50, hf50, hg50, hG50, hK50⟩
      have HG50 := Lib.hid hG50
      have HK50 := Lib.hid (HKd.out.trans hK50)
      clear hG50 hK50
      try dsimp only
      have hb50 : s50.size ≤ 500 := by omega
      refine hK.out _ _ (HG50.out.c0) (fun _ => ?_)
      clear hK K
      try simp only [Act.put, List.setIfInBounds_toArray, List.set_cons_zero, List.set_cons_succ]
      refine wpAnyH_take (i := 4) (oi := { dst := some 100, op := Op.binOp BinOp.add 9 (Operand.const (Value.string { data := #[40] })) (Operand.tmp 99) 9, type := 9, pos := "source.go:220", after := #[{ on := 3, ground := Ground.data }], guard := none }) (v := ?_) rfl (by kernel_rfl) (by kernel_rfl) (by kernel_rfl) (fun _ _ _ h => h) (Or.inl ⟨by rfl, ?_⟩) (HG50.out.c0) ?_
      rotate_left 1
      · intro w hSw
        try dsimp only at hSw
        go_simp
        first
          | done
          | with_reducible rfl
          | rw [if_neg (by omega)]
      try simp only [Act.put, List.setIfInBounds_toArray, List.set_cons_zero, List.set_cons_succ]
      refine wpAnyH_ready (rs := [5, 10]) (by kernel_rfl) (by simp) ?_
      refine AllReadyH.cons (o := { dst := some 101, op := Op.buildSlice 44 6 #[(0, Operand.const (Value.string { data := #[32, 91, 93, 32] })), (1, Operand.const (Value.string { data := #[32, 124, 126, 124, 32] })), (2, Operand.const (Value.string { data := #[32, 59, 32] })), (3, Operand.const (Value.string { data := #[32, 47, 92, 32] })), (4, Operand.const (Value.string { data := #[32, 91, 62, 32] })), (5, Operand.const (Value.string { data := #[32, 124, 124, 124, 32] }))], type := 44, pos := "source.go:220", after := #[], guard := none }) rfl (fun K hK => ?_) (AllReadyH.cons (o := { dst := some 106, op := Op.call { callee := Callee.value (Operand.func 14), args := #[Operand.tmp 105, Operand.const (Value.int IntKind.i64 6)], argTypes := #[40, 3] }, type := 3, pos := "source.go:220", after := #[{ on := 9, ground := Ground.data }, { on := 3, ground := Ground.chain }], guard := none }) rfl (fun K hK => ?_) (AllReadyH.nil))
      · go_simp
        try dsimp only
        have HG51 := Lib.hid (HG50.out.more (strBlock tlL))
        have HK51 := Lib.hid (HK50.out.alloc HL.out (strBlock tlL))
        have HB51 : Hid ((w50.alloc (strBlock tlL)).heap[w50.heap.size]? = some (strBlock tlL)) := heap_alloc_new w50 _
        have hgb51 := HG50.out.gl
        refine hK.out _ (w50.alloc (strBlock tlL)) (HG51.out.c0) (fun _ => ?_)
        clear hK K
        generalize hwe51 : w50.alloc (strBlock tlL) = wl51 at *
        clear hwe51
        generalize hbe51 : w50.heap.size = bl51 at *
        clear hbe51
        try simp only [Act.put, List.setIfInBounds_toArray, List.set_cons_zero, List.set_cons_succ]
        refine wpAnyH_ready (rs := [10]) (by kernel_rfl) (by simp) ?_
        refine AllReadyH.cons (o := { dst := some 106, op := Op.call { callee := Callee.value (Operand.func 14), args := #[Operand.tmp 105, Operand.const (Value.int IntKind.i64 6)], argTypes := #[40, 3] }, type := 3, pos := "source.go:220", after := #[{ on := 9, ground := Ground.data }, { on := 3, ground := Ground.chain }], guard := none }) rfl (fun K hK => ?_) (AllReadyH.nil)
        go_simp
        go_at_call 14
        refine (gnext 6 6 rfl (by decide) (by decide) HG51.out HN.out).mono ?_
        rintro e w52 ⟨r52, hr52, rfl, hG52, hK52⟩
        have HG52 := Lib.hid hG52
        have HK52 := Lib.hid (HK51.out.trans (hK52.mono fun _ q => .inl q))
        have HB52 := Lib.hid ((hK52.block _ (.inr rfl)).trans HB51.out)
        clear hG52 hK52
        try dsimp only
        have hx52 : (0 : Int) ≤ (r52 : Int) := by omega
        have hy52 : (r52 : Int) < 6 := by omega
        have hd52 := digS_size r52
        refine hK.out _ _ (HG52.out.c0) (fun _ => ?_)
        clear hK K
        try simp only [Act.put, List.setIfInBounds_toArray, List.set_cons_zero, List.set_cons_succ]
        refine wpAnyH_take (i := 11) (oi := { dst := some 107, op := Op.indexAddr 44 (Operand.tmp 101) (Operand.tmp 106), type := 0, pos := "source.go:220", after := #[{ on := 5, ground := Ground.data }, { on := 10, ground := Ground.data }], guard := none }) (v := ?_) rfl (by kernel_rfl) (by kernel_rfl) (by kernel_rfl) (fun _ _ _ h => h) (Or.inl ⟨by rfl, ?_⟩) (HG52.out.c0) ?_
        rotate_left 1
        · intro w hSw
          try dsimp only at hSw
          go_simp
          first
            | done
            | with_reducible rfl
            | rw [if_neg (by omega)]
        try simp only [Act.put, List.setIfInBounds_toArray, List.set_cons_zero, List.set_cons_succ]
        have hl53 : w52.cell? ⟨bl51, r52, none⟩ = some (.string (S (tlL.getD r52 []))) := str_cell HB52.out r52 (show r52 < tlL.length from hr52)
        have hle53 := tlL_le r52 hr52
        have hlc53 : Hid (∀ W : World, W.heap[bl51]? = some (strBlock tlL) → W.cell? ⟨bl51, r52, none⟩ = some (.string (S (tlL.getD r52 [])))) := Lib.hid (fun W q => str_cell q r52 (show r52 < tlL.length from hr52))
        generalize tlL.getD r52 [] = st53 at *
        refine wpAnyH_stronger (S' := fun W => (W.cell? ⟨X.wb, 0, none⟩ = some (.pointer (some ⟨X.g, 0, none⟩))) ∧ W.cell? ⟨bl51, r52, none⟩ = some (.string (S st53))) (fun _ q => q.1) ?_
        have hlS53 : (S st53).size ≤ 10 := by rw [S_size]; omega
        refine wpAnyH_take (i := 12) (oi := { dst := some 108, op := Op.load 9 (Operand.tmp 107), type := 9, pos := "source.go:220", after := #[{ on := 11, ground := Ground.data }], guard := none }) (v := ?_) rfl (by kernel_rfl) (by kernel_rfl) (by kernel_rfl) (fun _ _ _ h => h) (Or.inl ⟨by rfl, ?_⟩) (⟨HG52.out.c0, hl53⟩) ?_
        rotate_left 1
        · intro w hSw
          (try dsimp only at hSw); have hSa := hSw.1; have hSb := hSw.2; clear hSw
          go_simp
          first
            | done
            | with_reducible rfl
            | rw [if_neg (by omega)]
        try simp only [Act.put, List.setIfInBounds_toArray, List.set_cons_zero, List.set_cons_succ]
        refine wpAnyH_take (i := 13) (oi := { dst := some 109, op := Op.binOp BinOp.add 9 (Operand.tmp 100) (Operand.tmp 108) 9, type := 9, pos := "source.go:220", after := #[{ on := 4, ground := Ground.data }, { on := 12, ground := Ground.data }], guard := none }) (v := ?_) rfl (by kernel_rfl) (by kernel_rfl) (by kernel_rfl) (fun _ _ _ h => h) (Or.inl ⟨by rfl, ?_⟩) (⟨HG52.out.c0, hl53⟩) ?_
        rotate_left 1
        · intro w hSw
          (try dsimp only at hSw); have hSa := hSw.1; have hSb := hSw.2; clear hSw
          go_simp
          first
            | done
            | with_reducible rfl
            | rw [if_neg (by omega)]
        try simp only [Act.put, List.setIfInBounds_toArray, List.set_cons_zero, List.set_cons_succ]
        refine wpAnyH_ready (rs := [17]) (by kernel_rfl) (by simp) ?_
        refine AllReadyH.cons (o := { dst := some 113, op := Op.call { callee := Callee.value (Operand.func 20), args := #[Operand.tmp 110, Operand.tmp 112], argTypes := #[45, 3] }, type := 9, pos := "source.go:220", after := #[{ on := 14, ground := Ground.data }, { on := 16, ground := Ground.data }, { on := 10, ground := Ground.chain }], guard := none }) rfl (fun K hK => ?_) (AllReadyH.nil)
        go_simp
        go_at_call 20
        refine (HP.out _ _ _ _ _ HG52.out HN.out HF.out (by omega)).mono ?_
        rintro e w54 ⟨s54, f54, rfl, hs54, hf54, hg54, hG54, hK54⟩
        have HG54 := Lib.hid hG54
        have HK54 := Lib.hid (HK52.out.trans (hK54.mono fun _ q => .inl q))
        have HB54 := Lib.hid ((hK54.block _ (.inr rfl)).trans HB52.out)
        have hl54 := hlc53.out _ HB54.out
        clear hG54 hK54
        try dsimp only
        have hb54 : s54.size ≤ 500 := by omega
        refine hK.out _ _ (⟨HG54.out.c0, hl54⟩) (fun _ => ?_)
        clear hK K
        try simp only [Act.put, List.setIfInBounds_toArray, List.set_cons_zero, List.set_cons_succ]
        refine wpAnyH_take (i := 18) (oi := { dst := some 114, op := Op.binOp BinOp.add 9 (Operand.tmp 109) (Operand.tmp 113) 9, type := 9, pos := "source.go:220", after := #[{ on := 13, ground := Ground.data }, { on := 17, ground := Ground.data }], guard := none }) (v := ?_) rfl (by kernel_rfl) (by kernel_rfl) (by kernel_rfl) (fun _ _ _ h => h) (Or.inl ⟨by rfl, ?_⟩) (⟨HG54.out.c0, hl54⟩) ?_
        rotate_left 1
        · intro w hSw
          (try dsimp only at hSw); have hSa := hSw.1; have hSb := hSw.2; clear hSw
          go_simp
          first
            | done
            | with_reducible rfl
            | rw [if_neg (by omega)]
        try simp only [Act.put, List.setIfInBounds_toArray, List.set_cons_zero, List.set_cons_succ]
        refine wpAnyH_take (i := 19) (oi := { dst := some 115, op := Op.binOp BinOp.add 9 (Operand.tmp 114) (Operand.const (Value.string { data := #[41] })) 9, type := 9, pos := "source.go:220", after := #[{ on := 18, ground := Ground.data }], guard := none }) (v := ?_) rfl (by kernel_rfl) (by kernel_rfl) (by kernel_rfl) (fun _ _ _ h => h) (Or.inl ⟨by rfl, ?_⟩) (⟨HG54.out.c0, hl54⟩) ?_
        rotate_left 1
        · intro w hSw
          (try dsimp only at hSw); have hSa := hSw.1; have hSb := hSw.2; clear hSw
          go_simp
          first
            | done
            | with_reducible rfl
            | rw [if_neg (by omega)]
        try simp only [Act.put, List.setIfInBounds_toArray, List.set_cons_zero, List.set_cons_succ]
        refine wpAnyH_take (i := 20) (oi := { dst := some 4, op := Op.assign (Operand.tmp 115), type := 9, pos := "source.go:220", after := #[{ on := 19, ground := Ground.data }, { on := 17, ground := Ground.chain }, { on := 0, ground := Ground.phase }, { on := 1, ground := Ground.phase }, { on := 2, ground := Ground.phase }, { on := 3, ground := Ground.phase }, { on := 4, ground := Ground.phase }, { on := 5, ground := Ground.phase }, { on := 6, ground := Ground.phase }, { on := 7, ground := Ground.phase }, { on := 8, ground := Ground.phase }, { on := 9, ground := Ground.phase }, { on := 10, ground := Ground.phase }, { on := 11, ground := Ground.phase }, { on := 12, ground := Ground.phase }, { on := 13, ground := Ground.phase }, { on := 14, ground := Ground.phase }, { on := 15, ground := Ground.phase }, { on := 16, ground := Ground.phase }, { on := 17, ground := Ground.phase }, { on := 18, ground := Ground.phase }, { on := 19, ground := Ground.phase }], guard := none }) (v := ?_) rfl (by kernel_rfl) (by kernel_rfl) (by kernel_rfl) (fun _ _ _ h => h) (Or.inl ⟨by rfl, ?_⟩) (⟨HG54.out.c0, hl54⟩) ?_
        rotate_left 1
        · intro w hSw
          (try dsimp only at hSw); have hSa := hSw.1; have hSb := hSw.2; clear hSw
          go_simp
          first
            | done
            | with_reducible rfl
            | rw [if_neg (by omega)]
        try simp only [Act.put, List.setIfInBounds_toArray, List.set_cons_zero, List.set_cons_succ]
        refine wpAnyH_done (by kernel_rfl) ?_ _
        refine NoPanic.normal ?_
        go_wp2_with fail
        go_ret
        exact ⟨_, f54, rfl, by (try simp [ByteArray.size_append, size_lit]); omega, by omega, by omega, (HG54.out.back hgb51), HK54.out⟩
      · go_simp
        go_at_call 14
        refine (gnext 6 6 rfl (by decide) (by decide) HG50.out HN.out).mono ?_
        rintro e w55 ⟨r55, hr55, rfl, hG55, hK55⟩
        have HG55 := Lib.hid hG55
        have HK55 := Lib.hid (HK50.out.trans hK55)
        clear hG55 hK55
        try dsimp only
        have hx55 : (0 : Int) ≤ (r55 : Int) := by omega
        have hy55 : (r55 : Int) < 6 := by omega
        have hd55 := digS_size r55
        refine hK.out _ _ (HG55.out.c0) (fun _ => ?_)
        clear hK K
        try simp only [Act.put, List.setIfInBounds_toArray, List.set_cons_zero, List.set_cons_succ]
        refine wpAnyH_ready (rs := [5, 17]) (by kernel_rfl) (by simp) ?_
        refine AllReadyH.cons (o := { dst := some 101, op := Op.buildSlice 44 6 #[(0, Operand.const (Value.string { data := #[32, 91, 93, 32] })), (1, Operand.const (Value.string { data := #[32, 124, 126, 124, 32] })), (2, Operand.const (Value.string { data := #[32, 59, 32] })), (3, Operand.const (Value.string { data := #[32, 47, 92, 32] })), (4, Operand.const (Value.string { data := #[32, 91, 62, 32] })), (5, Operand.const (Value.string { data := #[32, 124, 124, 124, 32] }))], type := 44, pos := "source.go:220", after := #[], guard := none }) rfl (fun K hK => ?_) (AllReadyH.cons (o := { dst := some 113, op := Op.call { callee := Callee.value (Operand.func 20), args := #[Operand.tmp 110, Operand.tmp 112], argTypes := #[45, 3] }, type := 9, pos := "source.go:220", after := #[{ on := 14, ground := Ground.data }, { on := 16, ground := Ground.data }, { on := 10, ground := Ground.chain }], guard := none }) rfl (fun K hK => ?_) (AllReadyH.nil))
        · go_simp
          try dsimp only
          have HG56 := Lib.hid (HG55.out.more (strBlock tlL))
          have HK56 := Lib.hid (HK55.out.alloc HL.out (strBlock tlL))
          have HB56 : Hid ((w55.alloc (strBlock tlL)).heap[w55.heap.size]? = some (strBlock tlL)) := heap_alloc_new w55 _
          have hgb56 := HG55.out.gl
          refine hK.out _ (w55.alloc (strBlock tlL)) (HG56.out.c0) (fun _ => ?_)
          clear hK K
          generalize hwe56 : w55.alloc (strBlock tlL) = wl56 at *
          clear hwe56
          generalize hbe56 : w55.heap.size = bl56 at *
          clear hbe56
          try simp only [Act.put, List.setIfInBounds_toArray, List.set_cons_zero, List.set_cons_succ]
          refine wpAnyH_take (i := 11) (oi := { dst := some 107, op := Op.indexAddr 44 (Operand.tmp 101) (Operand.tmp 106), type := 0, pos := "source.go:220", after := #[{ on := 5, ground := Ground.data }, { on := 10, ground := Ground.data }], guard := none }) (v := ?_) rfl (by kernel_rfl) (by kernel_rfl) (by kernel_rfl) (fun _ _ _ h => h) (Or.inl ⟨by rfl, ?_⟩) (HG56.out.c0) ?_
          rotate_left 1
          · intro w hSw
            try dsimp only at hSw
            go_simp
            first
              | done
              | with_reducible rfl
              | rw [if_neg (by omega)]
          try simp only [Act.put, List.setIfInBounds_toArray, List.set_cons_zero, List.set_cons_succ]
          have hl57 : wl56.cell? ⟨bl56, r55, none⟩ = some (.string (S (tlL.getD r55 []))) := str_cell HB56.out r55 (show r55 < tlL.length from hr55)
          have hle57 := tlL_le r55 hr55
          have hlc57 : Hid (∀ W : World, W.heap[bl56]? = some (strBlock tlL) → W.cell? ⟨bl56, r55, none⟩ = some (.string (S (tlL.getD r55 [])))) := Lib.hid (fun W q => str_cell q r55 (show r55 < tlL.length from hr55))
          generalize tlL.getD r55 [] = st57 at *
          refine wpAnyH_stronger (S' := fun W => (W.cell? ⟨X.wb, 0, none⟩ = some (.pointer (some ⟨X.g, 0, none⟩))) ∧ W.cell? ⟨bl56, r55, none⟩ = some (.string (S st57))) (fun _ q => q.1) ?_
          have hlS57 : (S st57).size ≤ 10 := by rw [S_size]; omega
          refine wpAnyH_take (i := 12) (oi := { dst := some 108, op := Op.load 9 (Operand.tmp 107), type := 9, pos := "source.go:220", after := #[{ on := 11, ground := Ground.data }], guard := none }) (v := ?_) rfl (by kernel_rfl) (by kernel_rfl) (by kernel_rfl) (fun _ _ _ h => h) (Or.inl ⟨by rfl, ?_⟩) (⟨HG56.out.c0, hl57⟩) ?_
          rotate_left 1
          · intro w hSw
            (try dsimp only at hSw); have hSa := hSw.1; have hSb := hSw.2; clear hSw
            go_simp
            first
              | done
              | with_reducible rfl
              | rw [if_neg (by omega)]
          try simp only [Act.put, List.setIfInBounds_toArray, List.set_cons_zero, List.set_cons_succ]
          refine wpAnyH_take (i := 13) (oi := { dst := some 109, op := Op.binOp BinOp.add 9 (Operand.tmp 100) (Operand.tmp 108) 9, type := 9, pos := "source.go:220", after := #[{ on := 4, ground := Ground.data }, { on := 12, ground := Ground.data }], guard := none }) (v := ?_) rfl (by kernel_rfl) (by kernel_rfl) (by kernel_rfl) (fun _ _ _ h => h) (Or.inl ⟨by rfl, ?_⟩) (⟨HG56.out.c0, hl57⟩) ?_
          rotate_left 1
          · intro w hSw
            (try dsimp only at hSw); have hSa := hSw.1; have hSb := hSw.2; clear hSw
            go_simp
            first
              | done
              | with_reducible rfl
              | rw [if_neg (by omega)]
          try simp only [Act.put, List.setIfInBounds_toArray, List.set_cons_zero, List.set_cons_succ]
          refine wpAnyH_ready (rs := [17]) (by kernel_rfl) (by simp) ?_
          refine AllReadyH.cons (o := { dst := some 113, op := Op.call { callee := Callee.value (Operand.func 20), args := #[Operand.tmp 110, Operand.tmp 112], argTypes := #[45, 3] }, type := 9, pos := "source.go:220", after := #[{ on := 14, ground := Ground.data }, { on := 16, ground := Ground.data }, { on := 10, ground := Ground.chain }], guard := none }) rfl (fun K hK => ?_) (AllReadyH.nil)
          go_simp
          go_at_call 20
          refine (HP.out _ _ _ _ _ HG56.out HN.out HF.out (by omega)).mono ?_
          rintro e w58 ⟨s58, f58, rfl, hs58, hf58, hg58, hG58, hK58⟩
          have HG58 := Lib.hid hG58
          have HK58 := Lib.hid (HK56.out.trans (hK58.mono fun _ q => .inl q))
          have HB58 := Lib.hid ((hK58.block _ (.inr rfl)).trans HB56.out)
          have hl58 := hlc57.out _ HB58.out
          clear hG58 hK58
          try dsimp only
          have hb58 : s58.size ≤ 500 := by omega
          refine hK.out _ _ (⟨HG58.out.c0, hl58⟩) (fun _ => ?_)
          clear hK K
          try simp only [Act.put, List.setIfInBounds_toArray, List.set_cons_zero, List.set_cons_succ]
          refine wpAnyH_take (i := 18) (oi := { dst := some 114, op := Op.binOp BinOp.add 9 (Operand.tmp 109) (Operand.tmp 113) 9, type := 9, pos := "source.go:220", after := #[{ on := 13, ground := Ground.data }, { on := 17, ground := Ground.data }], guard := none }) (v := ?_) rfl (by kernel_rfl) (by kernel_rfl) (by kernel_rfl) (fun _ _ _ h => h) (Or.inl ⟨by rfl, ?_⟩) (⟨HG58.out.c0, hl58⟩) ?_
          rotate_left 1
          · intro w hSw
            (try dsimp only at hSw); have hSa := hSw.1; have hSb := hSw.2; clear hSw
            go_simp
            first
              | done
              | with_reducible rfl
              | rw [if_neg (by omega)]
          try simp only [Act.put, List.setIfInBounds_toArray, List.set_cons_zero, List.set_cons_succ]
          refine wpAnyH_take (i := 19) (oi := { dst := some 115, op := Op.binOp BinOp.add 9 (Operand.tmp 114) (Operand.const (Value.string { data := #[41] })) 9, type := 9, pos := "source.go:220", after := #[{ on := 18, ground := Ground.data }], guard := none }) (v := ?_) rfl (by kernel_rfl) (by kernel_rfl) (by kernel_rfl) (fun _ _ _ h => h) (Or.inl ⟨by rfl, ?_⟩) (⟨HG58.out.c0, hl58⟩) ?_
          rotate_left 1
          · intro w hSw
            (try dsimp only at hSw); have hSa := hSw.1; have hSb := hSw.2; clear hSw
            go_simp
            first
              | done
              | with_reducible rfl
              | rw [if_neg (by omega)]
          try simp only [Act.put, List.setIfInBounds_toArray, List.set_cons_zero, List.set_cons_succ]
          refine wpAnyH_take (i := 20) (oi := { dst := some 4, op := Op.assign (Operand.tmp 115), type := 9, pos := "source.go:220", after := #[{ on := 19, ground := Ground.data }, { on := 17, ground := Ground.chain }, { on := 0, ground := Ground.phase }, { on := 1, ground := Ground.phase }, { on := 2, ground := Ground.phase }, { on := 3, ground := Ground.phase }, { on := 4, ground := Ground.phase }, { on := 5, ground := Ground.phase }, { on := 6, ground := Ground.phase }, { on := 7, ground := Ground.phase }, { on := 8, ground := Ground.phase }, { on := 9, ground := Ground.phase }, { on := 10, ground := Ground.phase }, { on := 11, ground := Ground.phase }, { on := 12, ground := Ground.phase }, { on := 13, ground := Ground.phase }, { on := 14, ground := Ground.phase }, { on := 15, ground := Ground.phase }, { on := 16, ground := Ground.phase }, { on := 17, ground := Ground.phase }, { on := 18, ground := Ground.phase }, { on := 19, ground := Ground.phase }], guard := none }) (v := ?_) rfl (by kernel_rfl) (by kernel_rfl) (by kernel_rfl) (fun _ _ _ h => h) (Or.inl ⟨by rfl, ?_⟩) (⟨HG58.out.c0, hl58⟩) ?_
          rotate_left 1
          · intro w hSw
            (try dsimp only at hSw); have hSa := hSw.1; have hSb := hSw.2; clear hSw
            go_simp
            first
              | done
              | with_reducible rfl
              | rw [if_neg (by omega)]
          try simp only [Act.put, List.setIfInBounds_toArray, List.set_cons_zero, List.set_cons_succ]
          refine wpAnyH_done (by kernel_rfl) ?_ _
          refine NoPanic.normal ?_
          go_wp2_with fail
          go_ret
          exact ⟨_, f58, rfl, by (try simp [ByteArray.size_append, size_lit]); omega, by omega, by omega, (HG58.out.back hgb56), HK58.out⟩
        · go_simp
          go_at_call 20
          refine (HP.out _ _ _ _ _ HG55.out HN.out HF.out (by omega)).mono ?_
          rintro e w59 ⟨s59, f59, rfl, hs59, hf59, hg59, hG59, hK59⟩
          have HG59 := Lib.hid hG59
          have HK59 := Lib.hid (HK55.out.trans hK59)
          clear hG59 hK59
          try dsimp only
          have hb59 : s59.size ≤ 500 := by omega
          refine hK.out _ _ (HG59.out.c0) (fun _ => ?_)
          clear hK K
          try simp only [Act.put, List.setIfInBounds_toArray, List.set_cons_zero, List.set_cons_succ]
          refine wpAnyH_ready (rs := [5]) (by kernel_rfl) (by simp) ?_
          refine AllReadyH.cons (o := { dst := some 101, op := Op.buildSlice 44 6 #[(0, Operand.const (Value.string { data := #[32, 91, 93, 32] })), (1, Operand.const (Value.string { data := #[32, 124, 126, 124, 32] })), (2, Operand.const (Value.string { data := #[32, 59, 32] })), (3, Operand.const (Value.string { data := #[32, 47, 92, 32] })), (4, Operand.const (Value.string { data := #[32, 91, 62, 32] })), (5, Operand.const (Value.string { data := #[32, 124, 124, 124, 32] }))], type := 44, pos := "source.go:220", after := #[], guard := none }) rfl (fun K hK => ?_) (AllReadyH.nil)
          go_simp
          try dsimp only
          have HG60 := Lib.hid (HG59.out.more (strBlock tlL))
          have HK60 := Lib.hid (HK59.out.alloc HL.out (strBlock tlL))
          have HB60 : Hid ((w59.alloc (strBlock tlL)).heap[w59.heap.size]? = some (strBlock tlL)) := heap_alloc_new w59 _
          have hgb60 := HG59.out.gl
          refine hK.out _ (w59.alloc (strBlock tlL)) (HG60.out.c0) (fun _ => ?_)
          clear hK K
          generalize hwe60 : w59.alloc (strBlock tlL) = wl60 at *
          clear hwe60
          generalize hbe60 : w59.heap.size = bl60 at *
          clear hbe60
          try simp only [Act.put, List.setIfInBounds_toArray, List.set_cons_zero, List.set_cons_succ]
          refine wpAnyH_take (i := 11) (oi := { dst := some 107, op := Op.indexAddr 44 (Operand.tmp 101) (Operand.tmp 106), type := 0, pos := "source.go:220", after := #[{ on := 5, ground := Ground.data }, { on := 10, ground := Ground.data }], guard := none }) (v := ?_) rfl (by kernel_rfl) (by kernel_rfl) (by kernel_rfl) (fun _ _ _ h => h) (Or.inl ⟨by rfl, ?_⟩) (HG60.out.c0) ?_
          rotate_left 1
          · intro w hSw
            try dsimp only at hSw
            go_simp
            first
              | done
              | with_reducible rfl
              | rw [if_neg (by omega)]
          try simp only [Act.put, List.setIfInBounds_toArray, List.set_cons_zero, List.set_cons_succ]
          have hl61 : wl60.cell? ⟨bl60, r55, none⟩ = some (.string (S (tlL.getD r55 []))) := str_cell HB60.out r55 (show r55 < tlL.length from hr55)
          have hle61 := tlL_le r55 hr55
          have hlc61 : Hid (∀ W : World, W.heap[bl60]? = some (strBlock tlL) → W.cell? ⟨bl60, r55, none⟩ = some (.string (S (tlL.getD r55 [])))) := Lib.hid (fun W q => str_cell q r55 (show r55 < tlL.length from hr55))
          generalize tlL.getD r55 [] = st61 at *
          refine wpAnyH_stronger (S' := fun W => (W.cell? ⟨X.wb, 0, none⟩ = some (.pointer (some ⟨X.g, 0, none⟩))) ∧ W.cell? ⟨bl60, r55, none⟩ = some (.string (S st61))) (fun _ q => q.1) ?_
          have hlS61 : (S st61).size ≤ 10 := by rw [S_size]; omega
          refine wpAnyH_take (i := 12) (oi := { dst := some 108, op := Op.load 9 (Operand.tmp 107), type := 9, pos := "source.go:220", after := #[{ on := 11, ground := Ground.data }], guard := none }) (v := ?_) rfl (by kernel_rfl) (by kernel_rfl) (by kernel_rfl) (fun _ _ _ h => h) (Or.inl ⟨by rfl, ?_⟩) (⟨HG60.out.c0, hl61⟩) ?_
          rotate_left 1
          · intro w hSw
            (try dsimp only at hSw); have hSa := hSw.1; have hSb := hSw.2; clear hSw
            go_simp
            first
              | done
              | with_reducible rfl
              | rw [if_neg (by omega)]
          try simp only [Act.put, List.setIfInBounds_toArray, List.set_cons_zero, List.set_cons_succ]
          refine wpAnyH_take (i := 13) (oi := { dst := some 109, op := Op.binOp BinOp.add 9 (Operand.tmp 100) (Operand.tmp 108) 9, type := 9, pos := "source.go:220", after := #[{ on := 4, ground := Ground.data }, { on := 12, ground := Ground.data }], guard := none }) (v := ?_) rfl (by kernel_rfl) (by kernel_rfl) (by kernel_rfl) (fun _ _ _ h => h) (Or.inl ⟨by rfl, ?_⟩) (⟨HG60.out.c0, hl61⟩) ?_
          rotate_left 1
          · intro w hSw
            (try dsimp only at hSw); have hSa := hSw.1; have hSb := hSw.2; clear hSw
            go_simp
            first
              | done
              | with_reducible rfl
              | rw [if_neg (by omega)]
          try simp only [Act.put, List.setIfInBounds_toArray, List.set_cons_zero, List.set_cons_succ]
          refine wpAnyH_take (i := 18) (oi := { dst := some 114, op := Op.binOp BinOp.add 9 (Operand.tmp 109) (Operand.tmp 113) 9, type := 9, pos := "source.go:220", after := #[{ on := 13, ground := Ground.data }, { on := 17, ground := Ground.data }], guard := none }) (v := ?_) rfl (by kernel_rfl) (by kernel_rfl) (by kernel_rfl) (fun _ _ _ h => h) (Or.inl ⟨by rfl, ?_⟩) (⟨HG60.out.c0, hl61⟩) ?_
          rotate_left 1
          · intro w hSw
            (try dsimp only at hSw); have hSa := hSw.1; have hSb := hSw.2; clear hSw
            go_simp
            first
              | done
              | with_reducible rfl
              | rw [if_neg (by omega)]
          try simp only [Act.put, List.setIfInBounds_toArray, List.set_cons_zero, List.set_cons_succ]
          refine wpAnyH_take (i := 19) (oi := { dst := some 115, op := Op.binOp BinOp.add 9 (Operand.tmp 114) (Operand.const (Value.string { data := #[41] })) 9, type := 9, pos := "source.go:220", after := #[{ on := 18, ground := Ground.data }], guard := none }) (v := ?_) rfl (by kernel_rfl) (by kernel_rfl) (by kernel_rfl) (fun _ _ _ h => h) (Or.inl ⟨by rfl, ?_⟩) (⟨HG60.out.c0, hl61⟩) ?_
          rotate_left 1
          · intro w hSw
            (try dsimp only at hSw); have hSa := hSw.1; have hSb := hSw.2; clear hSw
            go_simp
            first
              | done
              | with_reducible rfl
              | rw [if_neg (by omega)]
          try simp only [Act.put, List.setIfInBounds_toArray, List.set_cons_zero, List.set_cons_succ]
          refine wpAnyH_take (i := 20) (oi := { dst := some 4, op := Op.assign (Operand.tmp 115), type := 9, pos := "source.go:220", after := #[{ on := 19, ground := Ground.data }, { on := 17, ground := Ground.chain }, { on := 0, ground := Ground.phase }, { on := 1, ground := Ground.phase }, { on := 2, ground := Ground.phase }, { on := 3, ground := Ground.phase }, { on := 4, ground := Ground.phase }, { on := 5, ground := Ground.phase }, { on := 6, ground := Ground.phase }, { on := 7, ground := Ground.phase }, { on := 8, ground := Ground.phase }, { on := 9, ground := Ground.phase }, { on := 10, ground := Ground.phase }, { on := 11, ground := Ground.phase }, { on := 12, ground := Ground.phase }, { on := 13, ground := Ground.phase }, { on := 14, ground := Ground.phase }, { on := 15, ground := Ground.phase }, { on := 16, ground := Ground.phase }, { on := 17, ground := Ground.phase }, { on := 18, ground := Ground.phase }, { on := 19, ground := Ground.phase }], guard := none }) (v := ?_) rfl (by kernel_rfl) (by kernel_rfl) (by kernel_rfl) (fun _ _ _ h => h) (Or.inl ⟨by rfl, ?_⟩) (⟨HG60.out.c0, hl61⟩) ?_
          rotate_left 1
          · intro w hSw
            (try dsimp only at hSw); have hSa := hSw.1; have hSb := hSw.2; clear hSw
            go_simp
            first
              | done
              | with_reducible rfl
              | rw [if_neg (by omega)]
          try simp only [Act.put, List.setIfInBounds_toArray, List.set_cons_zero, List.set_cons_succ]
          refine wpAnyH_done (by kernel_rfl) ?_ _
          refine NoPanic.normal ?_
          go_wp2_with fail
          go_ret
          exact ⟨_, f59, rfl, by (try simp [ByteArray.size_append, size_lit]); omega, by omega, by omega, (HG60.out.back hgb60), HK60.out⟩
    · go_simp
      try dsimp only
      have HG62 := Lib.hid (HGd.out.more (strBlock tlL))
      have HK62 := Lib.hid (HKd.out.alloc HL.out (strBlock tlL))
      have HB62 : Hid ((wd.alloc (strBlock tlL)).heap[wd.heap.size]? = some (strBlock tlL)) := heap_alloc_new wd _
      have hgb62 := HGd.out.gl
      refine hK.out _ (wd.alloc (strBlock tlL)) (HG62.out.c0) (fun _ => ?_)
      clear hK K
      generalize hwe62 : wd.alloc (strBlock tlL) = wl62 at *
      clear hwe62
      generalize hbe62 : wd.heap.size = bl62 at *
      clear hbe62
      try simp only [Act.put, List.setIfInBounds_toArray, List.set_cons_zero, List.set_cons_succ]
      refine wpAnyH_ready (rs := [3]) (by kernel_rfl) (by simp) ?_
      refine AllReadyH.cons (o := { dst := some 99, op := Op.call { callee := Callee.value (Operand.func 20), args := #[Operand.tmp 96, Operand.tmp 98], argTypes := #[45, 3] }, type := 9, pos := "source.go:220", after := #[{ on := 0, ground := Ground.data }, { on := 2, ground := Ground.data }], guard := none }) rfl (fun K hK => ?_) (AllReadyH.nil)
      go_simp
      go_at_call 20
      refine (HP.out _ _ _ _ _ HG62.out HN.out HF.out (by omega)).mono ?_
      rintro e w63 ⟨s63, f63, rfl, hs63, hf63, hg63, hG63, hK63⟩
      have HG63 := Lib.hid hG63
      have HK63 := Lib.hid (HK62.out.trans (hK63.mono fun _ q => .inl q))
      have HB63 := Lib.hid ((hK63.block _ (.inr rfl)).trans HB62.out)
      clear hG63 hK63
      try dsimp only
      have hb63 : s63.size ≤ 500 := by omega
      refine hK.out _ _ (HG63.out.c0) (fun _ => ?_)
      clear hK K
      try simp only [Act.put, List.setIfInBounds_toArray, List.set_cons_zero, List.set_cons_succ]
      refine wpAnyH_take (i := 4) (oi := { dst := some 100, op := Op.binOp BinOp.add 9 (Operand.const (Value.string { data := #[40] })) (Operand.tmp 99) 9, type := 9, pos := "source.go:220", after := #[{ on := 3, ground := Ground.data }], guard := none }) (v := ?_) rfl (by kernel_rfl) (by kernel_rfl) (by kernel_rfl) (fun _ _ _ h => h) (Or.inl ⟨by rfl, ?_⟩) (HG63.out.c0) ?_
      rotate_left 1
      · intro w hSw
        try dsimp only at hSw
        go_simp
        first
          | done
          | with_reducible rfl
          | rw [if_neg (by omega)]
      try simp only [Act.put, List.setIfInBounds_toArray, List.set_cons_zero, List.set_cons_succ]
      refine wpAnyH_ready (rs := [10]) (by kernel_rfl) (by simp) ?_
      refine AllReadyH.cons (o := { dst := some 106, op := Op.call { callee := Callee.value (Operand.func 14), args := #[Operand.tmp 105, Operand.const (Value.int IntKind.i64 6)], argTypes := #[40, 3] }, type := 3, pos := "source.go:220", after := #[{ on := 9, ground := Ground.data }, { on := 3, ground := Ground.chain }], guard := none }) rfl (fun K hK => ?_) (AllReadyH.nil)
      go_simp
      go_at_call 14
      refine (gnext 6 6 rfl (by decide) (by decide) HG63.out HN.out).mono ?_
      rintro e w64 ⟨r64, hr64, rfl, hG64, hK64⟩
      have HG64 := Lib.hid hG64
      have HK64 := Lib.hid (HK63.out.trans (hK64.mono fun _ q => .inl q))
      have HB64 := Lib.hid ((hK64.block _ (.inr rfl)).trans HB63.out)
      clear hG64 hK64
      try dsimp only
      have hx64 : (0 : Int) ≤ (r64 : Int) := by omega
      have hy64 : (r64 : Int) < 6 := by omega
      have hd64 := digS_size r64
      refine hK.out _ _ (HG64.out.c0) (fun _ => ?_)
      clear hK K
      try simp only [Act.put, List.setIfInBounds_toArray, List.set_cons_zero, List.set_cons_succ]
      refine wpAnyH_take (i := 11) (oi := { dst := some 107, op := Op.indexAddr 44 (Operand.tmp 101) (Operand.tmp 106), type := 0, pos := "source.go:220", after := #[{ on := 5, ground := Ground.data }, { on := 10, ground := Ground.data }], guard := none }) (v := ?_) rfl (by kernel_rfl) (by kernel_rfl) (by kernel_rfl) (fun _ _ _ h => h) (Or.inl ⟨by rfl, ?_⟩) (HG64.out.c0) ?_
      rotate_left 1
      · intro w hSw
        try dsimp only at hSw
        go_simp
        first
          | done
          | with_reducible rfl
          | rw [if_neg (by omega)]
      try simp only [Act.put, List.setIfInBounds_toArray, List.set_cons_zero, List.set_cons_succ]
      have hl65 : w64.cell? ⟨bl62, r64, none⟩ = some (.string (S (tlL.getD r64 []))) := str_cell HB64.out r64 (show r64 < tlL.length from hr64)
      have hle65 := tlL_le r64 hr64
      have hlc65 : Hid (∀ W : World, W.heap[bl62]? = some (strBlock tlL) → W.cell? ⟨bl62, r64, none⟩ = some (.string (S (tlL.getD r64 [])))) := Lib.hid (fun W q => str_cell q r64 (show r64 < tlL.length from hr64))
      generalize tlL.getD r64 [] = st65 at *
      refine wpAnyH_stronger (S' := fun W => (W.cell? ⟨X.wb, 0, none⟩ = some (.pointer (some ⟨X.g, 0, none⟩))) ∧ W.cell? ⟨bl62, r64, none⟩ = some (.string (S st65))) (fun _ q => q.1) ?_
      have hlS65 : (S st65).size ≤ 10 := by rw [S_size]; omega
      refine wpAnyH_take (i := 12) (oi := { dst := some 108, op := Op.load 9 (Operand.tmp 107), type := 9, pos := "source.go:220", after := #[{ on := 11, ground := Ground.data }], guard := none }) (v := ?_) rfl (by kernel_rfl) (by kernel_rfl) (by kernel_rfl) (fun _ _ _ h => h) (Or.inl ⟨by rfl, ?_⟩) (⟨HG64.out.c0, hl65⟩) ?_
      rotate_left 1
      · intro w hSw
        (try dsimp only at hSw); have hSa := hSw.1; have hSb := hSw.2; clear hSw
        go_simp
        first
          | done
          | with_reducible rfl
          | rw [if_neg (by omega)]
      try simp only [Act.put, List.setIfInBounds_toArray, List.set_cons_zero, List.set_cons_succ]
      refine wpAnyH_take (i := 13) (oi := { dst := some 109, op := Op.binOp BinOp.add 9 (Operand.tmp 100) (Operand.tmp 108) 9, type := 9, pos := "source.go:220", after := #[{ on := 4, ground := Ground.data }, { on := 12, ground := Ground.data }], guard := none }) (v := ?_) rfl (by kernel_rfl) (by kernel_rfl) (by kernel_rfl) (fun _ _ _ h => h) (Or.inl ⟨by rfl, ?_⟩) (⟨HG64.out.c0, hl65⟩) ?_
      rotate_left 1
      · intro w hSw
        (try dsimp only at hSw); have hSa := hSw.1; have hSb := hSw.2; clear hSw
        go_simp
        first
          | done
          | with_reducible rfl
          | rw [if_neg (by omega)]
      try simp only [Act.put, List.setIfInBounds_toArray, List.set_cons_zero, List.set_cons_succ]
      refine wpAnyH_ready (rs := [17]) (by kernel_rfl) (by simp) ?_
      refine AllReadyH.cons (o := { dst := some 113, op := Op.call { callee := Callee.value (Operand.func 20), args := #[Operand.tmp 110, Operand.tmp 112], argTypes := #[45, 3] }, type := 9, pos := "source.go:220", after := #[{ on := 14, ground := Ground.data }, { on := 16, ground := Ground.data }, { on := 10, ground := Ground.chain }], guard := none }) rfl (fun K hK => ?_) (AllReadyH.nil)
      go_simp
      go_at_call 20
      refine (HP.out _ _ _ _ _ HG64.out HN.out HF.out (by omega)).mono ?_
      rintro e w66 ⟨s66, f66, rfl, hs66, hf66, hg66, hG66, hK66⟩
      have HG66 := Lib.hid hG66
      have HK66 := Lib.hid (HK64.out.trans (hK66.mono fun _ q => .inl q))
      have HB66 := Lib.hid ((hK66.block _ (.inr rfl)).trans HB64.out)
      have hl66 := hlc65.out _ HB66.out
      clear hG66 hK66
      try dsimp only
      have hb66 : s66.size ≤ 500 := by omega
      refine hK.out _ _ (⟨HG66.out.c0, hl66⟩) (fun _ => ?_)
      clear hK K
      try simp only [Act.put, List.setIfInBounds_toArray, List.set_cons_zero, List.set_cons_succ]
      refine wpAnyH_take (i := 18) (oi := { dst := some 114, op := Op.binOp BinOp.add 9 (Operand.tmp 109) (Operand.tmp 113) 9, type := 9, pos := "source.go:220", after := #[{ on := 13, ground := Ground.data }, { on := 17, ground := Ground.data }], guard := none }) (v := ?_) rfl (by kernel_rfl) (by kernel_rfl) (by kernel_rfl) (fun _ _ _ h => h) (Or.inl ⟨by rfl, ?_⟩) (⟨HG66.out.c0, hl66⟩) ?_
      rotate_left 1
      · intro w hSw
        (try dsimp only at hSw); have hSa := hSw.1; have hSb := hSw.2; clear hSw
        go_simp
        first
          | done
          | with_reducible rfl
          | rw [if_neg (by omega)]
      try simp only [Act.put, List.setIfInBounds_toArray, List.set_cons_zero, List.set_cons_succ]
      refine wpAnyH_take (i := 19) (oi := { dst := some 115, op := Op.binOp BinOp.add 9 (Operand.tmp 114) (Operand.const (Value.string { data := #[41] })) 9, type := 9, pos := "source.go:220", after := #[{ on := 18, ground := Ground.data }], guard := none }) (v := ?_) rfl (by kernel_rfl) (by kernel_rfl) (by kernel_rfl) (fun _ _ _ h => h) (Or.inl ⟨by rfl, ?_⟩) (⟨HG66.out.c0, hl66⟩) ?_
      rotate_left 1
      · intro w hSw
        (try dsimp only at hSw); have hSa := hSw.1; have hSb := hSw.2; clear hSw
        go_simp
        first
          | done
          | with_reducible rfl
          | rw [if_neg (by omega)]
      try simp only [Act.put, List.setIfInBounds_toArray, List.set_cons_zero, List.set_cons_succ]
      refine wpAnyH_take (i := 20) (oi := { dst := some 4, op := Op.assign (Operand.tmp 115), type := 9, pos := "source.go:220", after := #[{ on := 19, ground := Ground.data }, { on := 17, ground := Ground.chain }, { on := 0, ground := Ground.phase }, { on := 1, ground := Ground.phase }, { on := 2, ground := Ground.phase }, { on := 3, ground := Ground.phase }, { on := 4, ground := Ground.phase }, { on := 5, ground := Ground.phase }, { on := 6, ground := Ground.phase }, { on := 7, ground := Ground.phase }, { on := 8, ground := Ground.phase }, { on := 9, ground := Ground.phase }, { on := 10, ground := Ground.phase }, { on := 11, ground := Ground.phase }, { on := 12, ground := Ground.phase }, { on := 13, ground := Ground.phase }, { on := 14, ground := Ground.phase }, { on := 15, ground := Ground.phase }, { on := 16, ground := Ground.phase }, { on := 17, ground := Ground.phase }, { on := 18, ground := Ground.phase }, { on := 19, ground := Ground.phase }], guard := none }) (v := ?_) rfl (by kernel_rfl) (by kernel_rfl) (by kernel_rfl) (fun _ _ _ h => h) (Or.inl ⟨by rfl, ?_⟩) (⟨HG66.out.c0, hl66⟩) ?_
      rotate_left 1
      · intro w hSw
        (try dsimp only at hSw); have hSa := hSw.1; have hSb := hSw.2; clear hSw
        go_simp
        first
          | done
          | with_reducible rfl
          | rw [if_neg (by omega)]
      try simp only [Act.put, List.setIfInBounds_toArray, List.set_cons_zero, List.set_cons_succ]
      refine wpAnyH_done (by kernel_rfl) ?_ _
      refine NoPanic.normal ?_
      go_wp2_with fail
      go_ret
      exact ⟨_, f66, rfl, by (try simp [ByteArray.size_append, size_lit]); omega, by omega, by omega, (HG66.out.back hgb62), HK66.out⟩
  · go_wp2_with fail
    refine (HP.out _ _ _ _ _ HG1.out HN.out HF.out (by omega)).mono ?_
    rintro e w10 ⟨s10, f10, rfl, hs10, hf10, hg10, hG10, hK10⟩
    have hb10 : s10.size ≤ 500 := by omega
    have HG10 := Lib.hid hG10
    have HK10 := Lib.hid (HK1.out.trans hK10)
    clear hG10 hK10
    have c10 := HG10.out.c0
    go_wp2_with fail
    refine (gevents HG10.out HN.out).mono ?_
    rintro e w11 ⟨s11, f11, rfl, hs11, hf11, hg11, hG11, hK11⟩
    have HG11 := Lib.hid hG11
    have HK11 := Lib.hid (HK10.out.trans hK11)
    clear hG11 hK11
    have c11 := HG11.out.c0
    go_wp2_with fail
    refine (HP.out _ _ _ _ _ HG11.out HN.out HF.out (by omega)).mono ?_
    rintro e w12 ⟨s12, f12, rfl, hs12, hf12, hg12, hG12, hK12⟩
    have hb12 : s12.size ≤ 500 := by omega
    have HG12 := Lib.hid hG12
    have HK12 := Lib.hid (HK11.out.trans hK12)
    clear hG12 hK12
    have c12 := HG12.out.c0
    go_wp2_with fail
    go_ret
    exact ⟨_, f12, rfl, by (try simp [ByteArray.size_append, size_lit]); omega, by omega, by omega, HG12.out, HK12.out⟩
  · go_wp2_with fail
    refine (HP.out _ _ _ _ _ HG1.out HN.out HF.out (by omega)).mono ?_
    rintro e w10 ⟨s10, f10, rfl, hs10, hf10, hg10, hG10, hK10⟩
    have hb10 : s10.size ≤ 500 := by omega
    have HG10 := Lib.hid hG10
    have HK10 := Lib.hid (HK1.out.trans hK10)
    clear hG10 hK10
    have c10 := HG10.out.c0
    go_wp2_with fail
    refine (gevents HG10.out HN.out).mono ?_
    rintro e w11 ⟨s11, f11, rfl, hs11, hf11, hg11, hG11, hK11⟩
    have HG11 := Lib.hid hG11
    have HK11 := Lib.hid (HK10.out.trans hK11)
    clear hG11 hK11
    have c11 := HG11.out.c0
    go_wp2_with fail
    go_ret
    exact ⟨_, f11, rfl, by (try simp [ByteArray.size_append, size_lit]); omega, by omega, by omega, HG11.out, HK11.out⟩
  · go_wp2_with fail
    refine (HP.out _ _ _ _ _ HG1.out HN.out HF.out (by omega)).mono ?_
    rintro e w10 ⟨s10, f10, rfl, hs10, hf10, hg10, hG10, hK10⟩
    have hb10 : s10.size ≤ 500 := by omega
    have HG10 := Lib.hid hG10
    have HK10 := Lib.hid (HK1.out.trans hK10)
    clear hG10 hK10
    have c10 := HG10.out.c0
    go_wp2_with fail
    go_ret
    exact ⟨_, f10, rfl, by (try simp [ByteArray.size_append, size_lit]); omega, by omega, by omega, HG10.out, HK10.out⟩
  · go_wp2_with fail
    refine (HE1.out _ _ _ _ _ _ HG1.out HN.out (by omega)).mono ?_
    rintro e w10 ⟨s10, f10, rfl, hs10, hf10, hg10, hG10, hK10⟩
    have hb10 : s10.size ≤ 500 := by omega
    have HG10 := Lib.hid hG10
    have HK10 := Lib.hid (HK1.out.trans hK10)
    clear hG10 hK10
    have c10 := HG10.out.c0
    go_wp2_with fail
    refine (HP.out _ _ _ _ _ HG10.out HN.out HF.out (by omega)).mono ?_
    rintro e w11 ⟨s11, f11, rfl, hs11, hf11, hg11, hG11, hK11⟩
    have hb11 : s11.size ≤ 500 := by omega
    have HG11 := Lib.hid hG11
    have HK11 := Lib.hid (HK10.out.trans hK11)
    clear hG11 hK11
    have c11 := HG11.out.c0
    go_wp2_with fail
    go_ret
    exact ⟨_, f11, rfl, by (try simp [ByteArray.size_append, size_lit]); omega, by omega, by omega, HG11.out, HK11.out⟩
  · go_wp2_with fail
    refine (gmark HG1.out).mono ?_
    rintro e w10 ⟨rfl, rfl⟩
    go_wp2_with fail
    refine (gbind _ HG1.out (by omega)).mono ?_
    rintro e w11 ⟨s11, rfl, hb11, hG11, hK11⟩
    have HG11 := Lib.hid hG11
    have HK11 := Lib.hid (HK1.out.trans hK11)
    clear hG11 hK11
    have c11 := HG11.out.c0
    go_wp2_with fail
    refine (HP.out _ _ _ _ _ HG11.out HN.out HF.out (by omega)).mono ?_
    rintro e w12 ⟨s12, f12, rfl, hs12, hf12, hg12, hG12, hK12⟩
    have hb12 : s12.size ≤ 500 := by omega
    have HG12 := Lib.hid hG12
    have HK12 := Lib.hid (HK11.out.trans hK12)
    clear hG12 hK12
    have c12 := HG12.out.c0
    go_wp2_with fail
    refine (greset k HG12.out (by omega)).mono ?_
    rintro e w13 ⟨rfl, hG13, hK13⟩
    have HG13 := Lib.hid hG13
    have HK13 := Lib.hid (HK12.out.trans hK13)
    clear hG13 hK13
    have c13 := HG13.out.c0
    go_wp2_with fail
    go_ret
    exact ⟨_, f12, rfl, by (try simp [ByteArray.size_append, size_lit]); omega, by omega, by omega, HG13.out, HK13.out⟩
  · go_wp2_with fail
    refine (HE1.out _ _ _ _ _ _ HG1.out HN.out (by omega)).mono ?_
    rintro e w10 ⟨s10, f10, rfl, hs10, hf10, hg10, hG10, hK10⟩
    have hb10 : s10.size ≤ 500 := by omega
    have HG10 := Lib.hid hG10
    have HK10 := Lib.hid (HK1.out.trans hK10)
    clear hG10 hK10
    have c10 := HG10.out.c0
    go_wp2_with fail
    refine (HP.out _ _ _ _ _ HG10.out HN.out HF.out (by omega)).mono ?_
    rintro e w11 ⟨s11, f11, rfl, hs11, hf11, hg11, hG11, hK11⟩
    have hb11 : s11.size ≤ 500 := by omega
    have HG11 := Lib.hid hG11
    have HK11 := Lib.hid (HK10.out.trans hK11)
    clear hG11 hK11
    have c11 := HG11.out.c0
    go_wp2_with fail
    refine (HP.out _ _ _ _ _ HG11.out HN.out HF.out (by omega)).mono ?_
    rintro e w12 ⟨s12, f12, rfl, hs12, hf12, hg12, hG12, hK12⟩
    have hb12 : s12.size ≤ 500 := by omega
    have HG12 := Lib.hid hG12
    have HK12 := Lib.hid (HK11.out.trans hK12)
    clear hG12 hK12
    have c12 := HG12.out.c0
    go_wp2_with fail
    go_ret
    exact ⟨_, f12, rfl, by (try simp [ByteArray.size_append, size_lit]); omega, by omega, by omega, HG12.out, HK12.out⟩

end Go.Proofs.YtkjjagmpnnnimaaGreatDoor
