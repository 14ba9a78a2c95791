/- Substitutions: what substitutionOf returns. Condition: a list of bindings has a length. -/
import Derived.Test.YtcnanbmbdajcaaaDoorTyH0
import Derived.Deep.RegionHeld3
namespace Go.Proofs.YtcnanbmbdajcaaaDoor
open Go.RowKit M

def SubPost (o : Bool) (bs : List BS) (w : World) (e : Ending) (w' : World) : Prop :=
  Below w.heap.size w w' ∧ match o with
    | false => e = .returned (.tuple #[.map none, .bool false])
    | true => ∃ g, e = .returned (.tuple #[.map (some g), .bool true]) ∧ w.heap.size ≤ g ∧ IMap w' g (bs.map fun b => (b.1, tsV b.2))

set_option maxRecDepth 100000 in
set_option maxHeartbeats 6400000 in
theorem subOf_any (w : World) (A : Option Addr) (n c : Nat) (bs : List BS) (hn : n = bs.length) (hl : n ≤ maxLen) (hA : InB w A bs) :
    Calls Tryd.prog 41 #[.slice A n c] w (SubPost (subst (bs.map mb)) bs w) := by
  unfold maxLen at hl
  generalize ho : subst (bs.map mb) = o
  have HO : Hid (subF (prevV bs 0) ((bs.drop 0).map mb) = o) := ho
  have HA := hide hA
  have HN := Lib.hid hn
  have hmm := @run_makeMap Tryd.prog
  clear hA hn ho
  go_enter Tryd.func41, Tryd.ntmps41
  go_wp2_with fail
  clear hmm
  go_loopw [10] (fun vi wr => ∃ i : Nat, vi = .int .i64 i ∧ i ≤ n ∧ Hid (subF (prevV bs i) ((bs.drop i).map mb) = o) ∧ Hid (LeLast bs i) ∧ Hid (IMap wr w.heap.size ((bs.take i).map fun b => (b.1, tsV b.2))) ∧ Hid (Below w.heap.size w wr) ∧ w.heap.size < wr.heap.size) (fun vi _ => n - (intOf vi).toNat)
  case atStart => exact ⟨0, rfl, by omega, HO.out, LeLast.zero bs, IMap.made w, (Below.refl _ _).alloc (Nat.le_refl _) _, by simp⟩
  case round =>
    obtain ⟨i, rfl, hi, hE, hLL, hM, hB, hz⟩ := hrel
    by_cases hlt : i < n
    · have hlt2 : i < bs.length := by rw [← HN.out]; exact hlt
      obtain ⟨b, hb⟩ : ∃ b, bs[i]? = some b := ⟨bs[i], List.getElem?_eq_getElem hlt2⟩
      obtain ⟨k, off, rfl, hk, x0, x1⟩ := ((unhide HA).below hB.out).at_ hb
      obtain ⟨v, ta, tc, tn⟩ := b
      simp only at x0 x1
      have HB0 := Lib.hid hb
      clear hb hlt2
      go_wp2_with fail
      have HX1 := hide (Blk.new wr 43 #[.int .i64 v, .slice ta tn.length tc])
      have HB1 := hide (hB.out.alloc hB.out.size (.cells #[.int .i64 v, .slice ta tn.length tc] 43))
      have HM1 := hide ((unhide hM).alloc (.cells #[.int .i64 v, .slice ta tn.length tc] 43))
      have hkb : k < (wr.alloc (.cells #[.int .i64 v, .slice ta tn.length tc] 43)).heap.size := by simp; omega
      have hz1 : w.heap.size < (wr.alloc (.cells #[.int .i64 v, .slice ta tn.length tc] 43)).heap.size := by simp; omega
      have HA1 := hide ((unhide HA).below (unhide HB1))
      have hI := ((unhide HA1).2 _ (List.mem_of_getElem? HB0.out)).1
      obtain ⟨hml, hmc⟩ := ((unhide HA).2 _ (List.mem_of_getElem? HB0.out)).2
      simp only at hI hml hmc
      unfold maxLen at hml
      have HI1 := hide hI
      have hxl := (unhide HX1).lt
      clear hI x0 x1 hM hB
      generalize hw1e : wr.alloc (.cells #[.int .i64 v, .slice ta tn.length tc] 43) = w1 at *
      generalize hbxe : wr.heap.size = bx at *
      clear hw1e hbxe hz
      have b0 : w1.cell? ⟨bx, 0, none⟩ = some (.int .i64 v) := (unhide HX1).cell 0
      have b1 : w1.cell? ⟨bx, 1, none⟩ = some (.slice ta tn.length tc) := (unhide HX1).cell 1
      rcases Nat.eq_zero_or_pos i with hi0 | hi0
      · subst hi0
        have hasc : ∀ q, 0 < 0 → bs[0 - 1]? = some q → q.1 < v := fun q h => absurd h (by omega)
        cases hv : valT tn
        · obtain rfl : o = false := by rw [← hE.out]; exact subF_bad HB0.out (.inr hv)
          have fd0 : Hid (w1.drew.cell? ⟨bx, 0, none⟩ = some (.int .i64 v)) := b0
          have fd1 : Hid (w1.drew.cell? ⟨bx, 1, none⟩ = some (.slice ta tn.length tc)) := b1
          have HBd : Hid (Below w.heap.size w w1.drew) := below_drew (unhide HB1)
          have HMd := hide (IMap.drew (unhide HM1))
          have HId : Hid (InC w1.drew ta (tn.flatMap ndCells)) := (unhide HI1).drew
          have hzd : w.heap.size < w1.drew.heap.size := hz1
          have hxd : bx < w1.drew.heap.size := hxl
          have hkd : k < w1.drew.heap.size := hkb
          refine wp_region_noPanic ?_
          refine wp_region_held_drew (S := fun W => W.cell? ⟨bx, 0, none⟩ = some (.int .i64 v) ∧ W.cell? ⟨bx, 1, none⟩ = some (.slice ta tn.length tc)) (by kernel_rfl) ⟨fd0, fd1⟩ (fun _ => ?_)
          generalize w1.drew = wd at *
          try simp only [Act.put, List.setIfInBounds_toArray, List.set_cons_zero, List.set_cons_succ]
          refine wpAnyH_take (i := 0) (oi := { dst := some 15, op := Op.move (Operand.tmp 5), type := 3, pos := "types.go:164", after := #[], guard := none }) (v := ?_) rfl (by kernel_rfl) (by kernel_rfl) (by kernel_rfl) (fun _ _ _ h => h) (Or.inl ⟨by rfl, ?_⟩) ⟨fd0, fd1⟩ ?_
          rotate_left 1
          · intro w hSw
            obtain ⟨hSw0, hSw1⟩ := hSw
            go_simp
            first
              | done
              | with_reducible rfl
              | rw [if_neg (by omega)]
          try simp only [Act.put, List.setIfInBounds_toArray, List.set_cons_zero, List.set_cons_succ]
          refine wpAnyH_take (i := 1) (oi := { dst := some 16, op := Op.binOp BinOp.gtr 3 (Operand.tmp 15) (Operand.const (Value.int IntKind.i64 0)) 3, type := 4, pos := "types.go:164", after := #[{ on := 0, ground := Ground.data }], guard := none }) (v := ?_) rfl (by kernel_rfl) (by kernel_rfl) (by kernel_rfl) (fun _ _ _ h => h) (Or.inl ⟨by rfl, ?_⟩) ⟨fd0, fd1⟩ ?_
          rotate_left 1
          · intro w hSw
            obtain ⟨hSw0, hSw1⟩ := hSw
            go_simp
            first
              | done
              | with_reducible rfl
              | rw [if_neg (by omega)]
          try simp only [Act.put, List.setIfInBounds_toArray, List.set_cons_zero, List.set_cons_succ]
          refine wpAnyH_take (i := 2) (oi := { dst := some 17, op := Op.move (Operand.tmp 16), type := 4, pos := "types.go:164", after := #[{ on := 1, ground := Ground.data }], guard := none }) (v := ?_) rfl (by kernel_rfl) (by kernel_rfl) (by kernel_rfl) (fun _ _ _ h => h) (Or.inl ⟨by rfl, ?_⟩) ⟨fd0, fd1⟩ ?_
          rotate_left 1
          · intro w hSw
            obtain ⟨hSw0, hSw1⟩ := hSw
            go_simp
            first
              | done
              | with_reducible rfl
              | rw [if_neg (by omega)]
          try simp only [Act.put, List.setIfInBounds_toArray, List.set_cons_zero, List.set_cons_succ]
          refine wpAnyH_take (i := 3) (oi := { dst := some 18, op := Op.fieldAddr 43 (Operand.tmp 6) 0, type := 0, pos := "types.go:164", after := #[{ on := 2, ground := Ground.guard }], guard := some (2, true) }) (v := undef) rfl (by kernel_rfl) (by kernel_rfl) (by kernel_rfl) (fun _ _ _ h => h) (Or.inr ⟨by rfl, rfl⟩) ⟨fd0, fd1⟩ ?_
          try simp only [Act.put, List.setIfInBounds_toArray, List.set_cons_zero, List.set_cons_succ]
          refine wpAnyH_take (i := 4) (oi := { dst := some 19, op := Op.load 3 (Operand.tmp 18), type := 3, pos := "types.go:164", after := #[{ on := 3, ground := Ground.data }, { on := 2, ground := Ground.guard }], guard := some (2, true) }) (v := undef) rfl (by kernel_rfl) (by kernel_rfl) (by kernel_rfl) (fun _ _ _ h => h) (Or.inr ⟨by rfl, rfl⟩) ⟨fd0, fd1⟩ ?_
          try simp only [Act.put, List.setIfInBounds_toArray, List.set_cons_zero, List.set_cons_succ]
          refine wpAnyH_take (i := 5) (oi := { dst := some 20, op := Op.move (Operand.tmp 0), type := 38, pos := "types.go:164", after := #[{ on := 2, ground := Ground.guard }], guard := some (2, true) }) (v := undef) rfl (by kernel_rfl) (by kernel_rfl) (by kernel_rfl) (fun _ _ _ h => h) (Or.inr ⟨by rfl, rfl⟩) ⟨fd0, fd1⟩ ?_
          try simp only [Act.put, List.setIfInBounds_toArray, List.set_cons_zero, List.set_cons_succ]
          refine wpAnyH_take (i := 6) (oi := { dst := some 21, op := Op.move (Operand.tmp 5), type := 3, pos := "types.go:164", after := #[{ on := 2, ground := Ground.guard }], guard := some (2, true) }) (v := undef) rfl (by kernel_rfl) (by kernel_rfl) (by kernel_rfl) (fun _ _ _ h => h) (Or.inr ⟨by rfl, rfl⟩) ⟨fd0, fd1⟩ ?_
          try simp only [Act.put, List.setIfInBounds_toArray, List.set_cons_zero, List.set_cons_succ]
          refine wpAnyH_take (i := 7) (oi := { dst := some 22, op := Op.binOp BinOp.sub 3 (Operand.tmp 21) (Operand.const (Value.int IntKind.i64 1)) 3, type := 3, pos := "types.go:164", after := #[{ on := 6, ground := Ground.data }, { on := 2, ground := Ground.guard }], guard := some (2, true) }) (v := undef) rfl (by kernel_rfl) (by kernel_rfl) (by kernel_rfl) (fun _ _ _ h => h) (Or.inr ⟨by rfl, rfl⟩) ⟨fd0, fd1⟩ ?_
          try simp only [Act.put, List.setIfInBounds_toArray, List.set_cons_zero, List.set_cons_succ]
          refine wpAnyH_take (i := 8) (oi := { dst := some 23, op := Op.indexAddr 38 (Operand.tmp 20) (Operand.tmp 22), type := 0, pos := "types.go:164", after := #[{ on := 5, ground := Ground.data }, { on := 7, ground := Ground.data }, { on := 2, ground := Ground.guard }], guard := some (2, true) }) (v := undef) rfl (by kernel_rfl) (by kernel_rfl) (by kernel_rfl) (fun _ _ _ h => h) (Or.inr ⟨by rfl, rfl⟩) ⟨fd0, fd1⟩ ?_
          try simp only [Act.put, List.setIfInBounds_toArray, List.set_cons_zero, List.set_cons_succ]
          refine wpAnyH_take (i := 9) (oi := { dst := some 24, op := Op.fieldAddr 43 (Operand.tmp 23) 0, type := 0, pos := "types.go:164", after := #[{ on := 8, ground := Ground.data }, { on := 2, ground := Ground.guard }], guard := some (2, true) }) (v := undef) rfl (by kernel_rfl) (by kernel_rfl) (by kernel_rfl) (fun _ _ _ h => h) (Or.inr ⟨by rfl, rfl⟩) ⟨fd0, fd1⟩ ?_
          try simp only [Act.put, List.setIfInBounds_toArray, List.set_cons_zero, List.set_cons_succ]
          refine wpAnyH_take (i := 10) (oi := { dst := some 25, op := Op.load 3 (Operand.tmp 24), type := 3, pos := "types.go:164", after := #[{ on := 9, ground := Ground.data }, { on := 2, ground := Ground.guard }], guard := some (2, true) }) (v := undef) rfl (by kernel_rfl) (by kernel_rfl) (by kernel_rfl) (fun _ _ _ h => h) (Or.inr ⟨by rfl, rfl⟩) ⟨fd0, fd1⟩ ?_
          try simp only [Act.put, List.setIfInBounds_toArray, List.set_cons_zero, List.set_cons_succ]
          refine wpAnyH_take (i := 11) (oi := { dst := some 26, op := Op.binOp BinOp.leq 3 (Operand.tmp 19) (Operand.tmp 25) 3, type := 4, pos := "types.go:164", after := #[{ on := 4, ground := Ground.data }, { on := 10, ground := Ground.data }, { on := 2, ground := Ground.guard }], guard := some (2, true) }) (v := undef) rfl (by kernel_rfl) (by kernel_rfl) (by kernel_rfl) (fun _ _ _ h => h) (Or.inr ⟨by rfl, rfl⟩) ⟨fd0, fd1⟩ ?_
          try simp only [Act.put, List.setIfInBounds_toArray, List.set_cons_zero, List.set_cons_succ]
          refine wpAnyH_take (i := 12) (oi := { dst := some 27, op := Op.pick (Operand.tmp 17) (Operand.tmp 26) (Operand.const (Value.bool false)), type := 4, pos := "types.go:164", after := #[{ on := 2, ground := Ground.data }, { on := 11, ground := Ground.data }], guard := none }) (v := ?_) rfl (by kernel_rfl) (by kernel_rfl) (by kernel_rfl) (fun _ _ _ h => h) (Or.inl ⟨by rfl, ?_⟩) ⟨fd0, fd1⟩ ?_
          rotate_left 1
          · intro w hSw
            obtain ⟨hSw0, hSw1⟩ := hSw
            go_simp
            first
              | done
              | with_reducible rfl
              | rw [if_neg (by omega)]
          try simp only [Act.put, List.setIfInBounds_toArray, List.set_cons_zero, List.set_cons_succ]
          refine wpAnyH_take (i := 13) (oi := { dst := some 28, op := Op.move (Operand.tmp 27), type := 4, pos := "types.go:164", after := #[{ on := 12, ground := Ground.data }, { on := 2, ground := Ground.chain }], guard := none }) (v := ?_) rfl (by kernel_rfl) (by kernel_rfl) (by kernel_rfl) (fun _ _ _ h => h) (Or.inl ⟨by rfl, ?_⟩) ⟨fd0, fd1⟩ ?_
          rotate_left 1
          · intro w hSw
            obtain ⟨hSw0, hSw1⟩ := hSw
            go_simp
            first
              | done
              | with_reducible rfl
              | rw [if_neg (by omega)]
          try simp only [Act.put, List.setIfInBounds_toArray, List.set_cons_zero, List.set_cons_succ]
          refine wpAnyH_take (i := 14) (oi := { dst := some 29, op := Op.fieldAddr 43 (Operand.tmp 6) 1, type := 0, pos := "types.go:164", after := #[{ on := 13, ground := Ground.guard }], guard := some (13, false) }) (v := ?_) rfl (by kernel_rfl) (by kernel_rfl) (by kernel_rfl) (fun _ _ _ h => h) (Or.inl ⟨by rfl, ?_⟩) ⟨fd0, fd1⟩ ?_
          rotate_left 1
          · intro w hSw
            obtain ⟨hSw0, hSw1⟩ := hSw
            go_simp
            first
              | done
              | with_reducible rfl
              | rw [if_neg (by omega)]
          try simp only [Act.put, List.setIfInBounds_toArray, List.set_cons_zero, List.set_cons_succ]
          refine wpAnyH_take (i := 15) (oi := { dst := some 30, op := Op.load 22 (Operand.tmp 29), type := 22, pos := "types.go:164", after := #[{ on := 14, ground := Ground.data }, { on := 13, ground := Ground.guard }], guard := some (13, false) }) (v := ?_) rfl (by kernel_rfl) (by kernel_rfl) (by kernel_rfl) (fun _ _ _ h => h) (Or.inl ⟨by rfl, ?_⟩) ⟨fd0, fd1⟩ ?_
          rotate_left 1
          · intro w hSw
            obtain ⟨hSw0, hSw1⟩ := hSw
            go_simp
            first
              | done
              | with_reducible rfl
              | rw [if_neg (by omega)]
          try simp only [Act.put, List.setIfInBounds_toArray, List.set_cons_zero, List.set_cons_succ]
          refine wpAnyH_ready (rs := [16]) (by kernel_rfl) (by simp) ?_
          refine AllReadyH.cons (o := { dst := some 31, op := Op.call { callee := Callee.value (Operand.func 7), args := #[Operand.tmp 30], argTypes := #[22] }, type := 4, pos := "types.go:164", after := #[{ on := 15, ground := Ground.data }, { on := 13, ground := Ground.chain }, { on := 13, ground := Ground.guard }], guard := some (13, false) }) rfl (fun K hK => ?_) AllReadyH.nil
          go_simp
          go_at_call 7
          refine (valid_b tn _ hv wd ta tc (by unfold maxLen; omega) hmc (unhide HId)).mono ?_
          rintro e w501 ⟨rfl, hb501⟩
          have HB501 := hide ((unhide HBd).trans (hb501.mono (unhide HBd).size))
          have HM501 := hide ((unhide HMd).below hb501 hzd)
          have hz501 : w.heap.size < w501.heap.size := Nat.lt_of_lt_of_le hzd hb501.size
          have e0_501 := (hb501.cell (p := ⟨bx, 0, none⟩) hxd).trans fd0
          have e1_501 := (hb501.cell (p := ⟨bx, 1, none⟩) hxd).trans fd1
          clear hb501
          try dsimp only
          refine hK.out _ _ ⟨e0_501, e1_501⟩ (fun _ => ?_)
          clear hK K
          try simp only [Act.put, List.setIfInBounds_toArray, List.set_cons_zero, List.set_cons_succ]
          refine wpAnyH_take (i := 17) (oi := { dst := some 32, op := Op.unOp UnOp.not 4 (Operand.tmp 31), type := 4, pos := "types.go:164", after := #[{ on := 16, ground := Ground.data }, { on := 13, ground := Ground.guard }], guard := some (13, false) }) (v := ?_) rfl (by kernel_rfl) (by kernel_rfl) (by kernel_rfl) (fun _ _ _ h => h) (Or.inl ⟨by rfl, ?_⟩) ⟨e0_501, e1_501⟩ ?_
          rotate_left 1
          · intro w hSw
            obtain ⟨hSw0, hSw1⟩ := hSw
            go_simp
            first
              | done
              | with_reducible rfl
              | rw [if_neg (by omega)]
          try simp only [Act.put, List.setIfInBounds_toArray, List.set_cons_zero, List.set_cons_succ]
          refine wpAnyH_take (i := 18) (oi := { dst := some 33, op := Op.pick (Operand.tmp 28) (Operand.const (Value.bool true)) (Operand.tmp 32), type := 4, pos := "types.go:164", after := #[{ on := 13, ground := Ground.data }, { on := 17, ground := Ground.data }], guard := none }) (v := ?_) rfl (by kernel_rfl) (by kernel_rfl) (by kernel_rfl) (fun _ _ _ h => h) (Or.inl ⟨by rfl, ?_⟩) ⟨e0_501, e1_501⟩ ?_
          rotate_left 1
          · intro w hSw
            obtain ⟨hSw0, hSw1⟩ := hSw
            go_simp
            first
              | done
              | with_reducible rfl
              | rw [if_neg (by omega)]
          try simp only [Act.put, List.setIfInBounds_toArray, List.set_cons_zero, List.set_cons_succ]
          refine wpAnyH_done (by kernel_rfl) ?_ _
          refine NoPanic.normal ?_
          go_wp2_with fail
          go_ret2
          exact ⟨unhide HB501, rfl⟩
        · have fd0 : Hid (w1.drew.cell? ⟨bx, 0, none⟩ = some (.int .i64 v)) := b0
          have fd1 : Hid (w1.drew.cell? ⟨bx, 1, none⟩ = some (.slice ta tn.length tc)) := b1
          have HBd : Hid (Below w.heap.size w w1.drew) := below_drew (unhide HB1)
          have HMd := hide (IMap.drew (unhide HM1))
          have HId : Hid (InC w1.drew ta (tn.flatMap ndCells)) := (unhide HI1).drew
          have hzd : w.heap.size < w1.drew.heap.size := hz1
          have hxd : bx < w1.drew.heap.size := hxl
          have hkd : k < w1.drew.heap.size := hkb
          refine wp_region_noPanic ?_
          refine wp_region_held_drew (S := fun W => W.cell? ⟨bx, 0, none⟩ = some (.int .i64 v) ∧ W.cell? ⟨bx, 1, none⟩ = some (.slice ta tn.length tc)) (by kernel_rfl) ⟨fd0, fd1⟩ (fun _ => ?_)
          generalize w1.drew = wd at *
          try simp only [Act.put, List.setIfInBounds_toArray, List.set_cons_zero, List.set_cons_succ]
          refine wpAnyH_take (i := 0) (oi := { dst := some 15, op := Op.move (Operand.tmp 5), type := 3, pos := "types.go:164", after := #[], guard := none }) (v := ?_) rfl (by kernel_rfl) (by kernel_rfl) (by kernel_rfl) (fun _ _ _ h => h) (Or.inl ⟨by rfl, ?_⟩) ⟨fd0, fd1⟩ ?_
          rotate_left 1
          · intro w hSw
            obtain ⟨hSw0, hSw1⟩ := hSw
            go_simp
            first
              | done
              | with_reducible rfl
              | rw [if_neg (by omega)]
          try simp only [Act.put, List.setIfInBounds_toArray, List.set_cons_zero, List.set_cons_succ]
          refine wpAnyH_take (i := 1) (oi := { dst := some 16, op := Op.binOp BinOp.gtr 3 (Operand.tmp 15) (Operand.const (Value.int IntKind.i64 0)) 3, type := 4, pos := "types.go:164", after := #[{ on := 0, ground := Ground.data }], guard := none }) (v := ?_) rfl (by kernel_rfl) (by kernel_rfl) (by kernel_rfl) (fun _ _ _ h => h) (Or.inl ⟨by rfl, ?_⟩) ⟨fd0, fd1⟩ ?_
          rotate_left 1
          · intro w hSw
            obtain ⟨hSw0, hSw1⟩ := hSw
            go_simp
            first
              | done
              | with_reducible rfl
              | rw [if_neg (by omega)]
          try simp only [Act.put, List.setIfInBounds_toArray, List.set_cons_zero, List.set_cons_succ]
          refine wpAnyH_take (i := 2) (oi := { dst := some 17, op := Op.move (Operand.tmp 16), type := 4, pos := "types.go:164", after := #[{ on := 1, ground := Ground.data }], guard := none }) (v := ?_) rfl (by kernel_rfl) (by kernel_rfl) (by kernel_rfl) (fun _ _ _ h => h) (Or.inl ⟨by rfl, ?_⟩) ⟨fd0, fd1⟩ ?_
          rotate_left 1
          · intro w hSw
            obtain ⟨hSw0, hSw1⟩ := hSw
            go_simp
            first
              | done
              | with_reducible rfl
              | rw [if_neg (by omega)]
          try simp only [Act.put, List.setIfInBounds_toArray, List.set_cons_zero, List.set_cons_succ]
          refine wpAnyH_take (i := 3) (oi := { dst := some 18, op := Op.fieldAddr 43 (Operand.tmp 6) 0, type := 0, pos := "types.go:164", after := #[{ on := 2, ground := Ground.guard }], guard := some (2, true) }) (v := undef) rfl (by kernel_rfl) (by kernel_rfl) (by kernel_rfl) (fun _ _ _ h => h) (Or.inr ⟨by rfl, rfl⟩) ⟨fd0, fd1⟩ ?_
          try simp only [Act.put, List.setIfInBounds_toArray, List.set_cons_zero, List.set_cons_succ]
          refine wpAnyH_take (i := 4) (oi := { dst := some 19, op := Op.load 3 (Operand.tmp 18), type := 3, pos := "types.go:164", after := #[{ on := 3, ground := Ground.data }, { on := 2, ground := Ground.guard }], guard := some (2, true) }) (v := undef) rfl (by kernel_rfl) (by kernel_rfl) (by kernel_rfl) (fun _ _ _ h => h) (Or.inr ⟨by rfl, rfl⟩) ⟨fd0, fd1⟩ ?_
          try simp only [Act.put, List.setIfInBounds_toArray, List.set_cons_zero, List.set_cons_succ]
          refine wpAnyH_take (i := 5) (oi := { dst := some 20, op := Op.move (Operand.tmp 0), type := 38, pos := "types.go:164", after := #[{ on := 2, ground := Ground.guard }], guard := some (2, true) }) (v := undef) rfl (by kernel_rfl) (by kernel_rfl) (by kernel_rfl) (fun _ _ _ h => h) (Or.inr ⟨by rfl, rfl⟩) ⟨fd0, fd1⟩ ?_
          try simp only [Act.put, List.setIfInBounds_toArray, List.set_cons_zero, List.set_cons_succ]
          refine wpAnyH_take (i := 6) (oi := { dst := some 21, op := Op.move (Operand.tmp 5), type := 3, pos := "types.go:164", after := #[{ on := 2, ground := Ground.guard }], guard := some (2, true) }) (v := undef) rfl (by kernel_rfl) (by kernel_rfl) (by kernel_rfl) (fun _ _ _ h => h) (Or.inr ⟨by rfl, rfl⟩) ⟨fd0, fd1⟩ ?_
          try simp only [Act.put, List.setIfInBounds_toArray, List.set_cons_zero, List.set_cons_succ]
          refine wpAnyH_take (i := 7) (oi := { dst := some 22, op := Op.binOp BinOp.sub 3 (Operand.tmp 21) (Operand.const (Value.int IntKind.i64 1)) 3, type := 3, pos := "types.go:164", after := #[{ on := 6, ground := Ground.data }, { on := 2, ground := Ground.guard }], guard := some (2, true) }) (v := undef) rfl (by kernel_rfl) (by kernel_rfl) (by kernel_rfl) (fun _ _ _ h => h) (Or.inr ⟨by rfl, rfl⟩) ⟨fd0, fd1⟩ ?_
          try simp only [Act.put, List.setIfInBounds_toArray, List.set_cons_zero, List.set_cons_succ]
          refine wpAnyH_take (i := 8) (oi := { dst := some 23, op := Op.indexAddr 38 (Operand.tmp 20) (Operand.tmp 22), type := 0, pos := "types.go:164", after := #[{ on := 5, ground := Ground.data }, { on := 7, ground := Ground.data }, { on := 2, ground := Ground.guard }], guard := some (2, true) }) (v := undef) rfl (by kernel_rfl) (by kernel_rfl) (by kernel_rfl) (fun _ _ _ h => h) (Or.inr ⟨by rfl, rfl⟩) ⟨fd0, fd1⟩ ?_
          try simp only [Act.put, List.setIfInBounds_toArray, List.set_cons_zero, List.set_cons_succ]
          refine wpAnyH_take (i := 9) (oi := { dst := some 24, op := Op.fieldAddr 43 (Operand.tmp 23) 0, type := 0, pos := "types.go:164", after := #[{ on := 8, ground := Ground.data }, { on := 2, ground := Ground.guard }], guard := some (2, true) }) (v := undef) rfl (by kernel_rfl) (by kernel_rfl) (by kernel_rfl) (fun _ _ _ h => h) (Or.inr ⟨by rfl, rfl⟩) ⟨fd0, fd1⟩ ?_
          try simp only [Act.put, List.setIfInBounds_toArray, List.set_cons_zero, List.set_cons_succ]
          refine wpAnyH_take (i := 10) (oi := { dst := some 25, op := Op.load 3 (Operand.tmp 24), type := 3, pos := "types.go:164", after := #[{ on := 9, ground := Ground.data }, { on := 2, ground := Ground.guard }], guard := some (2, true) }) (v := undef) rfl (by kernel_rfl) (by kernel_rfl) (by kernel_rfl) (fun _ _ _ h => h) (Or.inr ⟨by rfl, rfl⟩) ⟨fd0, fd1⟩ ?_
          try simp only [Act.put, List.setIfInBounds_toArray, List.set_cons_zero, List.set_cons_succ]
          refine wpAnyH_take (i := 11) (oi := { dst := some 26, op := Op.binOp BinOp.leq 3 (Operand.tmp 19) (Operand.tmp 25) 3, type := 4, pos := "types.go:164", after := #[{ on := 4, ground := Ground.data }, { on := 10, ground := Ground.data }, { on := 2, ground := Ground.guard }], guard := some (2, true) }) (v := undef) rfl (by kernel_rfl) (by kernel_rfl) (by kernel_rfl) (fun _ _ _ h => h) (Or.inr ⟨by rfl, rfl⟩) ⟨fd0, fd1⟩ ?_
          try simp only [Act.put, List.setIfInBounds_toArray, List.set_cons_zero, List.set_cons_succ]
          refine wpAnyH_take (i := 12) (oi := { dst := some 27, op := Op.pick (Operand.tmp 17) (Operand.tmp 26) (Operand.const (Value.bool false)), type := 4, pos := "types.go:164", after := #[{ on := 2, ground := Ground.data }, { on := 11, ground := Ground.data }], guard := none }) (v := ?_) rfl (by kernel_rfl) (by kernel_rfl) (by kernel_rfl) (fun _ _ _ h => h) (Or.inl ⟨by rfl, ?_⟩) ⟨fd0, fd1⟩ ?_
          rotate_left 1
          · intro w hSw
            obtain ⟨hSw0, hSw1⟩ := hSw
            go_simp
            first
              | done
              | with_reducible rfl
              | rw [if_neg (by omega)]
          try simp only [Act.put, List.setIfInBounds_toArray, List.set_cons_zero, List.set_cons_succ]
          refine wpAnyH_take (i := 13) (oi := { dst := some 28, op := Op.move (Operand.tmp 27), type := 4, pos := "types.go:164", after := #[{ on := 12, ground := Ground.data }, { on := 2, ground := Ground.chain }], guard := none }) (v := ?_) rfl (by kernel_rfl) (by kernel_rfl) (by kernel_rfl) (fun _ _ _ h => h) (Or.inl ⟨by rfl, ?_⟩) ⟨fd0, fd1⟩ ?_
          rotate_left 1
          · intro w hSw
            obtain ⟨hSw0, hSw1⟩ := hSw
            go_simp
            first
              | done
              | with_reducible rfl
              | rw [if_neg (by omega)]
          try simp only [Act.put, List.setIfInBounds_toArray, List.set_cons_zero, List.set_cons_succ]
          refine wpAnyH_take (i := 14) (oi := { dst := some 29, op := Op.fieldAddr 43 (Operand.tmp 6) 1, type := 0, pos := "types.go:164", after := #[{ on := 13, ground := Ground.guard }], guard := some (13, false) }) (v := ?_) rfl (by kernel_rfl) (by kernel_rfl) (by kernel_rfl) (fun _ _ _ h => h) (Or.inl ⟨by rfl, ?_⟩) ⟨fd0, fd1⟩ ?_
          rotate_left 1
          · intro w hSw
            obtain ⟨hSw0, hSw1⟩ := hSw
            go_simp
            first
              | done
              | with_reducible rfl
              | rw [if_neg (by omega)]
          try simp only [Act.put, List.setIfInBounds_toArray, List.set_cons_zero, List.set_cons_succ]
          refine wpAnyH_take (i := 15) (oi := { dst := some 30, op := Op.load 22 (Operand.tmp 29), type := 22, pos := "types.go:164", after := #[{ on := 14, ground := Ground.data }, { on := 13, ground := Ground.guard }], guard := some (13, false) }) (v := ?_) rfl (by kernel_rfl) (by kernel_rfl) (by kernel_rfl) (fun _ _ _ h => h) (Or.inl ⟨by rfl, ?_⟩) ⟨fd0, fd1⟩ ?_
          rotate_left 1
          · intro w hSw
            obtain ⟨hSw0, hSw1⟩ := hSw
            go_simp
            first
              | done
              | with_reducible rfl
              | rw [if_neg (by omega)]
          try simp only [Act.put, List.setIfInBounds_toArray, List.set_cons_zero, List.set_cons_succ]
          refine wpAnyH_ready (rs := [16]) (by kernel_rfl) (by simp) ?_
          refine AllReadyH.cons (o := { dst := some 31, op := Op.call { callee := Callee.value (Operand.func 7), args := #[Operand.tmp 30], argTypes := #[22] }, type := 4, pos := "types.go:164", after := #[{ on := 15, ground := Ground.data }, { on := 13, ground := Ground.chain }, { on := 13, ground := Ground.guard }], guard := some (13, false) }) rfl (fun K hK => ?_) AllReadyH.nil
          go_simp
          go_at_call 7
          refine (valid_b tn _ hv wd ta tc (by unfold maxLen; omega) hmc (unhide HId)).mono ?_
          rintro e w502 ⟨rfl, hb502⟩
          have HB502 := hide ((unhide HBd).trans (hb502.mono (unhide HBd).size))
          have HM502 := hide ((unhide HMd).below hb502 hzd)
          have hz502 : w.heap.size < w502.heap.size := Nat.lt_of_lt_of_le hzd hb502.size
          have e0_502 := (hb502.cell (p := ⟨bx, 0, none⟩) hxd).trans fd0
          have e1_502 := (hb502.cell (p := ⟨bx, 1, none⟩) hxd).trans fd1
          clear hb502
          try dsimp only
          refine hK.out _ _ ⟨e0_502, e1_502⟩ (fun _ => ?_)
          clear hK K
          try simp only [Act.put, List.setIfInBounds_toArray, List.set_cons_zero, List.set_cons_succ]
          refine wpAnyH_take (i := 17) (oi := { dst := some 32, op := Op.unOp UnOp.not 4 (Operand.tmp 31), type := 4, pos := "types.go:164", after := #[{ on := 16, ground := Ground.data }, { on := 13, ground := Ground.guard }], guard := some (13, false) }) (v := ?_) rfl (by kernel_rfl) (by kernel_rfl) (by kernel_rfl) (fun _ _ _ h => h) (Or.inl ⟨by rfl, ?_⟩) ⟨e0_502, e1_502⟩ ?_
          rotate_left 1
          · intro w hSw
            obtain ⟨hSw0, hSw1⟩ := hSw
            go_simp
            first
              | done
              | with_reducible rfl
              | rw [if_neg (by omega)]
          try simp only [Act.put, List.setIfInBounds_toArray, List.set_cons_zero, List.set_cons_succ]
          refine wpAnyH_take (i := 18) (oi := { dst := some 33, op := Op.pick (Operand.tmp 28) (Operand.const (Value.bool true)) (Operand.tmp 32), type := 4, pos := "types.go:164", after := #[{ on := 13, ground := Ground.data }, { on := 17, ground := Ground.data }], guard := none }) (v := ?_) rfl (by kernel_rfl) (by kernel_rfl) (by kernel_rfl) (fun _ _ _ h => h) (Or.inl ⟨by rfl, ?_⟩) ⟨e0_502, e1_502⟩ ?_
          rotate_left 1
          · intro w hSw
            obtain ⟨hSw0, hSw1⟩ := hSw
            go_simp
            first
              | done
              | with_reducible rfl
              | rw [if_neg (by omega)]
          try simp only [Act.put, List.setIfInBounds_toArray, List.set_cons_zero, List.set_cons_succ]
          refine wpAnyH_done (by kernel_rfl) ?_ _
          refine NoPanic.normal ?_
          have hfk := fresh_key hLL.out HB0.out hasc
          have HE2 := Lib.hid ((subF_ok HB0.out hasc hv).symm.trans hE.out)
          have HL2 := hide (LeLast.step hLL.out HB0.out hasc)
          have HT2 : Hid ((bs.take (0 + 1)).map (fun b => (b.1, tsV b.2)) = (bs.take 0).map (fun b => (b.1, tsV b.2)) ++ [(v, Value.slice ta tn.length tc)]) := by
            show List.map _ _ = _
            rw [List.take_add_one, HB0.out]; simp
          clear hasc hv
          go_wp2_with (at_mapUpdate; refine wpList_put_i _ rfl _ _ _ 68 rfl 3 22 Tryd.underlying68 Tryd.underlying3 w.heap.size _ v (.slice ta tn.length tc) rfl rfl rfl (unhide HM502) hfk ?_; intro w9 hm9 hg9)
          have HB9 := hide (below_grown (unhide HB502) hg9 (Nat.le_refl _) (Nat.le_refl _))
          have HM9 := hide hm9
          have hz9 : w.heap.size < w9.heap.size := Nat.lt_of_lt_of_le hz502 hg9.size
          clear hm9 hg9 hfk
          go_wp2_with fail
          go_roundw
          case rel => exact ⟨0 + 1, by first | rfl | go_num, by omega, HE2.out, unhide HL2, by rw [HT2.out]; exact unhide HM9, unhide HB9, hz9⟩
          case measure => simp [intOf]; omega
      · have hpl : i - 1 < bs.length := by rw [← HN.out]; omega
        obtain ⟨pb, hpb⟩ : ∃ pb, bs[i - 1]? = some pb := ⟨bs[i - 1], List.getElem?_eq_getElem hpl⟩
        obtain ⟨k', off', hAe, hk', b2, _⟩ := (unhide HA1).at_ hpb
        injection hAe with hAe
        injection hAe with hAe1 hAe2
        subst hAe1 hAe2
        obtain ⟨pv, ptt⟩ := pb
        simp only at b2
        have g0 : decide (0 < i) = true := decide_eq_true hi0
        have g1 : decide ((0 : Int) < (i : Int)) = true := decide_eq_true (by omega)
        have s1 : IntKind.i64.wrap ((i : Int) - 1) = (i : Int) - 1 := IntWalk.i64_in _ (by omega)
        have s2 : (0 : Int) ≤ (i : Int) - 1 := by omega
        have s3 : ((i : Int) - 1).toNat = i - 1 := by omega
        have s4 : (i : Int) - 1 < (n : Int) := by omega
        have s5 : (1 : Int) ≤ (i : Int) := by omega
        by_cases hle : v ≤ pv
        · obtain rfl : o = false := by rw [← hE.out]; exact subF_bad HB0.out (.inl ⟨_, hi0, hpb, hle⟩)
          have g2 : decide (v ≤ pv) = true := decide_eq_true hle
          clear hpb hle
          have fd0 : Hid (w1.drew.cell? ⟨bx, 0, none⟩ = some (.int .i64 v)) := b0
          have fd1 : Hid (w1.drew.cell? ⟨bx, 1, none⟩ = some (.slice ta tn.length tc)) := b1
          have fd2 : Hid (w1.drew.cell? ⟨k, off + (i - 1) * 2, none⟩ = some (.int .i64 pv)) := b2
          have HBd : Hid (Below w.heap.size w w1.drew) := below_drew (unhide HB1)
          have HMd := hide (IMap.drew (unhide HM1))
          have HId : Hid (InC w1.drew ta (tn.flatMap ndCells)) := (unhide HI1).drew
          have hzd : w.heap.size < w1.drew.heap.size := hz1
          have hxd : bx < w1.drew.heap.size := hxl
          have hkd : k < w1.drew.heap.size := hkb
          refine wp_region_noPanic ?_
          refine wp_region_held_drew (S := fun W => W.cell? ⟨bx, 0, none⟩ = some (.int .i64 v) ∧ W.cell? ⟨bx, 1, none⟩ = some (.slice ta tn.length tc) ∧ W.cell? ⟨k, off + (i - 1) * 2, none⟩ = some (.int .i64 pv)) (by kernel_rfl) ⟨fd0, fd1, fd2⟩ (fun _ => ?_)
          generalize w1.drew = wd at *
          try simp only [Act.put, List.setIfInBounds_toArray, List.set_cons_zero, List.set_cons_succ]
          refine wpAnyH_take (i := 0) (oi := { dst := some 15, op := Op.move (Operand.tmp 5), type := 3, pos := "types.go:164", after := #[], guard := none }) (v := ?_) rfl (by kernel_rfl) (by kernel_rfl) (by kernel_rfl) (fun _ _ _ h => h) (Or.inl ⟨by rfl, ?_⟩) ⟨fd0, fd1, fd2⟩ ?_
          rotate_left 1
          · intro w hSw
            obtain ⟨hSw0, hSw1, hSw2⟩ := hSw
            go_simp
            first
              | done
              | with_reducible rfl
              | rw [if_neg (by omega)]
          try simp only [Act.put, List.setIfInBounds_toArray, List.set_cons_zero, List.set_cons_succ]
          refine wpAnyH_take (i := 1) (oi := { dst := some 16, op := Op.binOp BinOp.gtr 3 (Operand.tmp 15) (Operand.const (Value.int IntKind.i64 0)) 3, type := 4, pos := "types.go:164", after := #[{ on := 0, ground := Ground.data }], guard := none }) (v := ?_) rfl (by kernel_rfl) (by kernel_rfl) (by kernel_rfl) (fun _ _ _ h => h) (Or.inl ⟨by rfl, ?_⟩) ⟨fd0, fd1, fd2⟩ ?_
          rotate_left 1
          · intro w hSw
            obtain ⟨hSw0, hSw1, hSw2⟩ := hSw
            go_simp
            first
              | done
              | with_reducible rfl
              | rw [if_neg (by omega)]
          try simp only [Act.put, List.setIfInBounds_toArray, List.set_cons_zero, List.set_cons_succ]
          refine wpAnyH_take (i := 2) (oi := { dst := some 17, op := Op.move (Operand.tmp 16), type := 4, pos := "types.go:164", after := #[{ on := 1, ground := Ground.data }], guard := none }) (v := ?_) rfl (by kernel_rfl) (by kernel_rfl) (by kernel_rfl) (fun _ _ _ h => h) (Or.inl ⟨by rfl, ?_⟩) ⟨fd0, fd1, fd2⟩ ?_
          rotate_left 1
          · intro w hSw
            obtain ⟨hSw0, hSw1, hSw2⟩ := hSw
            go_simp
            first
              | done
              | with_reducible rfl
              | rw [if_neg (by omega)]
          try simp only [Act.put, List.setIfInBounds_toArray, List.set_cons_zero, List.set_cons_succ]
          refine wpAnyH_take (i := 3) (oi := { dst := some 18, op := Op.fieldAddr 43 (Operand.tmp 6) 0, type := 0, pos := "types.go:164", after := #[{ on := 2, ground := Ground.guard }], guard := some (2, true) }) (v := ?_) rfl (by kernel_rfl) (by kernel_rfl) (by kernel_rfl) (fun _ _ _ h => h) (Or.inl ⟨by rfl, ?_⟩) ⟨fd0, fd1, fd2⟩ ?_
          rotate_left 1
          · intro w hSw
            obtain ⟨hSw0, hSw1, hSw2⟩ := hSw
            go_simp
            first
              | done
              | with_reducible rfl
              | rw [if_neg (by omega)]
          try simp only [Act.put, List.setIfInBounds_toArray, List.set_cons_zero, List.set_cons_succ]
          refine wpAnyH_take (i := 4) (oi := { dst := some 19, op := Op.load 3 (Operand.tmp 18), type := 3, pos := "types.go:164", after := #[{ on := 3, ground := Ground.data }, { on := 2, ground := Ground.guard }], guard := some (2, true) }) (v := ?_) rfl (by kernel_rfl) (by kernel_rfl) (by kernel_rfl) (fun _ _ _ h => h) (Or.inl ⟨by rfl, ?_⟩) ⟨fd0, fd1, fd2⟩ ?_
          rotate_left 1
          · intro w hSw
            obtain ⟨hSw0, hSw1, hSw2⟩ := hSw
            go_simp
            first
              | done
              | with_reducible rfl
              | rw [if_neg (by omega)]
          try simp only [Act.put, List.setIfInBounds_toArray, List.set_cons_zero, List.set_cons_succ]
          refine wpAnyH_take (i := 5) (oi := { dst := some 20, op := Op.move (Operand.tmp 0), type := 38, pos := "types.go:164", after := #[{ on := 2, ground := Ground.guard }], guard := some (2, true) }) (v := ?_) rfl (by kernel_rfl) (by kernel_rfl) (by kernel_rfl) (fun _ _ _ h => h) (Or.inl ⟨by rfl, ?_⟩) ⟨fd0, fd1, fd2⟩ ?_
          rotate_left 1
          · intro w hSw
            obtain ⟨hSw0, hSw1, hSw2⟩ := hSw
            go_simp
            first
              | done
              | with_reducible rfl
              | rw [if_neg (by omega)]
          try simp only [Act.put, List.setIfInBounds_toArray, List.set_cons_zero, List.set_cons_succ]
          refine wpAnyH_take (i := 6) (oi := { dst := some 21, op := Op.move (Operand.tmp 5), type := 3, pos := "types.go:164", after := #[{ on := 2, ground := Ground.guard }], guard := some (2, true) }) (v := ?_) rfl (by kernel_rfl) (by kernel_rfl) (by kernel_rfl) (fun _ _ _ h => h) (Or.inl ⟨by rfl, ?_⟩) ⟨fd0, fd1, fd2⟩ ?_
          rotate_left 1
          · intro w hSw
            obtain ⟨hSw0, hSw1, hSw2⟩ := hSw
            go_simp
            first
              | done
              | with_reducible rfl
              | rw [if_neg (by omega)]
          try simp only [Act.put, List.setIfInBounds_toArray, List.set_cons_zero, List.set_cons_succ]
          refine wpAnyH_take (i := 7) (oi := { dst := some 22, op := Op.binOp BinOp.sub 3 (Operand.tmp 21) (Operand.const (Value.int IntKind.i64 1)) 3, type := 3, pos := "types.go:164", after := #[{ on := 6, ground := Ground.data }, { on := 2, ground := Ground.guard }], guard := some (2, true) }) (v := ?_) rfl (by kernel_rfl) (by kernel_rfl) (by kernel_rfl) (fun _ _ _ h => h) (Or.inl ⟨by rfl, ?_⟩) ⟨fd0, fd1, fd2⟩ ?_
          rotate_left 1
          · intro w hSw
            obtain ⟨hSw0, hSw1, hSw2⟩ := hSw
            go_simp
            first
              | done
              | with_reducible rfl
              | rw [if_neg (by omega)]
          try simp only [Act.put, List.setIfInBounds_toArray, List.set_cons_zero, List.set_cons_succ]
          refine wpAnyH_take (i := 8) (oi := { dst := some 23, op := Op.indexAddr 38 (Operand.tmp 20) (Operand.tmp 22), type := 0, pos := "types.go:164", after := #[{ on := 5, ground := Ground.data }, { on := 7, ground := Ground.data }, { on := 2, ground := Ground.guard }], guard := some (2, true) }) (v := ?_) rfl (by kernel_rfl) (by kernel_rfl) (by kernel_rfl) (fun _ _ _ h => h) (Or.inl ⟨by rfl, ?_⟩) ⟨fd0, fd1, fd2⟩ ?_
          rotate_left 1
          · intro w hSw
            obtain ⟨hSw0, hSw1, hSw2⟩ := hSw
            go_simp
            first
              | done
              | with_reducible rfl
              | rw [if_neg (by omega)]
          try simp only [Act.put, List.setIfInBounds_toArray, List.set_cons_zero, List.set_cons_succ]
          refine wpAnyH_take (i := 9) (oi := { dst := some 24, op := Op.fieldAddr 43 (Operand.tmp 23) 0, type := 0, pos := "types.go:164", after := #[{ on := 8, ground := Ground.data }, { on := 2, ground := Ground.guard }], guard := some (2, true) }) (v := ?_) rfl (by kernel_rfl) (by kernel_rfl) (by kernel_rfl) (fun _ _ _ h => h) (Or.inl ⟨by rfl, ?_⟩) ⟨fd0, fd1, fd2⟩ ?_
          rotate_left 1
          · intro w hSw
            obtain ⟨hSw0, hSw1, hSw2⟩ := hSw
            go_simp
            first
              | done
              | with_reducible rfl
              | rw [if_neg (by omega)]
          try simp only [Act.put, List.setIfInBounds_toArray, List.set_cons_zero, List.set_cons_succ]
          refine wpAnyH_take (i := 10) (oi := { dst := some 25, op := Op.load 3 (Operand.tmp 24), type := 3, pos := "types.go:164", after := #[{ on := 9, ground := Ground.data }, { on := 2, ground := Ground.guard }], guard := some (2, true) }) (v := ?_) rfl (by kernel_rfl) (by kernel_rfl) (by kernel_rfl) (fun _ _ _ h => h) (Or.inl ⟨by rfl, ?_⟩) ⟨fd0, fd1, fd2⟩ ?_
          rotate_left 1
          · intro w hSw
            obtain ⟨hSw0, hSw1, hSw2⟩ := hSw
            go_simp
            first
              | done
              | with_reducible rfl
              | rw [if_neg (by omega)]
          try simp only [Act.put, List.setIfInBounds_toArray, List.set_cons_zero, List.set_cons_succ]
          refine wpAnyH_take (i := 11) (oi := { dst := some 26, op := Op.binOp BinOp.leq 3 (Operand.tmp 19) (Operand.tmp 25) 3, type := 4, pos := "types.go:164", after := #[{ on := 4, ground := Ground.data }, { on := 10, ground := Ground.data }, { on := 2, ground := Ground.guard }], guard := some (2, true) }) (v := ?_) rfl (by kernel_rfl) (by kernel_rfl) (by kernel_rfl) (fun _ _ _ h => h) (Or.inl ⟨by rfl, ?_⟩) ⟨fd0, fd1, fd2⟩ ?_
          rotate_left 1
          · intro w hSw
            obtain ⟨hSw0, hSw1, hSw2⟩ := hSw
            go_simp
            first
              | done
              | with_reducible rfl
              | rw [if_neg (by omega)]
          try simp only [Act.put, List.setIfInBounds_toArray, List.set_cons_zero, List.set_cons_succ]
          refine wpAnyH_take (i := 12) (oi := { dst := some 27, op := Op.pick (Operand.tmp 17) (Operand.tmp 26) (Operand.const (Value.bool false)), type := 4, pos := "types.go:164", after := #[{ on := 2, ground := Ground.data }, { on := 11, ground := Ground.data }], guard := none }) (v := ?_) rfl (by kernel_rfl) (by kernel_rfl) (by kernel_rfl) (fun _ _ _ h => h) (Or.inl ⟨by rfl, ?_⟩) ⟨fd0, fd1, fd2⟩ ?_
          rotate_left 1
          · intro w hSw
            obtain ⟨hSw0, hSw1, hSw2⟩ := hSw
            go_simp
            first
              | done
              | with_reducible rfl
              | rw [if_neg (by omega)]
          try simp only [Act.put, List.setIfInBounds_toArray, List.set_cons_zero, List.set_cons_succ]
          refine wpAnyH_take (i := 13) (oi := { dst := some 28, op := Op.move (Operand.tmp 27), type := 4, pos := "types.go:164", after := #[{ on := 12, ground := Ground.data }, { on := 2, ground := Ground.chain }], guard := none }) (v := ?_) rfl (by kernel_rfl) (by kernel_rfl) (by kernel_rfl) (fun _ _ _ h => h) (Or.inl ⟨by rfl, ?_⟩) ⟨fd0, fd1, fd2⟩ ?_
          rotate_left 1
          · intro w hSw
            obtain ⟨hSw0, hSw1, hSw2⟩ := hSw
            go_simp
            first
              | done
              | with_reducible rfl
              | rw [if_neg (by omega)]
          try simp only [Act.put, List.setIfInBounds_toArray, List.set_cons_zero, List.set_cons_succ]
          refine wpAnyH_take (i := 14) (oi := { dst := some 29, op := Op.fieldAddr 43 (Operand.tmp 6) 1, type := 0, pos := "types.go:164", after := #[{ on := 13, ground := Ground.guard }], guard := some (13, false) }) (v := undef) rfl (by kernel_rfl) (by kernel_rfl) (by kernel_rfl) (fun _ _ _ h => h) (Or.inr ⟨by rfl, rfl⟩) ⟨fd0, fd1, fd2⟩ ?_
          try simp only [Act.put, List.setIfInBounds_toArray, List.set_cons_zero, List.set_cons_succ]
          refine wpAnyH_take (i := 15) (oi := { dst := some 30, op := Op.load 22 (Operand.tmp 29), type := 22, pos := "types.go:164", after := #[{ on := 14, ground := Ground.data }, { on := 13, ground := Ground.guard }], guard := some (13, false) }) (v := undef) rfl (by kernel_rfl) (by kernel_rfl) (by kernel_rfl) (fun _ _ _ h => h) (Or.inr ⟨by rfl, rfl⟩) ⟨fd0, fd1, fd2⟩ ?_
          try simp only [Act.put, List.setIfInBounds_toArray, List.set_cons_zero, List.set_cons_succ]
          refine wpAnyH_take (i := 16) (oi := { dst := some 31, op := Op.call { callee := Callee.value (Operand.func 7), args := #[Operand.tmp 30], argTypes := #[22] }, type := 4, pos := "types.go:164", after := #[{ on := 15, ground := Ground.data }, { on := 13, ground := Ground.chain }, { on := 13, ground := Ground.guard }], guard := some (13, false) }) (v := undef) rfl (by kernel_rfl) (by kernel_rfl) (by kernel_rfl) (fun _ _ _ h => h) (Or.inr ⟨by rfl, rfl⟩) ⟨fd0, fd1, fd2⟩ ?_
          try simp only [Act.put, List.setIfInBounds_toArray, List.set_cons_zero, List.set_cons_succ]
          refine wpAnyH_take (i := 17) (oi := { dst := some 32, op := Op.unOp UnOp.not 4 (Operand.tmp 31), type := 4, pos := "types.go:164", after := #[{ on := 16, ground := Ground.data }, { on := 13, ground := Ground.guard }], guard := some (13, false) }) (v := undef) rfl (by kernel_rfl) (by kernel_rfl) (by kernel_rfl) (fun _ _ _ h => h) (Or.inr ⟨by rfl, rfl⟩) ⟨fd0, fd1, fd2⟩ ?_
          try simp only [Act.put, List.setIfInBounds_toArray, List.set_cons_zero, List.set_cons_succ]
          refine wpAnyH_take (i := 18) (oi := { dst := some 33, op := Op.pick (Operand.tmp 28) (Operand.const (Value.bool true)) (Operand.tmp 32), type := 4, pos := "types.go:164", after := #[{ on := 13, ground := Ground.data }, { on := 17, ground := Ground.data }], guard := none }) (v := ?_) rfl (by kernel_rfl) (by kernel_rfl) (by kernel_rfl) (fun _ _ _ h => h) (Or.inl ⟨by rfl, ?_⟩) ⟨fd0, fd1, fd2⟩ ?_
          rotate_left 1
          · intro w hSw
            obtain ⟨hSw0, hSw1, hSw2⟩ := hSw
            go_simp
            first
              | done
              | with_reducible rfl
              | rw [if_neg (by omega)]
          try simp only [Act.put, List.setIfInBounds_toArray, List.set_cons_zero, List.set_cons_succ]
          refine wpAnyH_done (by kernel_rfl) ?_ _
          refine NoPanic.normal ?_
          go_wp2_with fail
          go_ret2
          exact ⟨unhide HBd, rfl⟩
        · have hasc : ∀ q, 0 < i → bs[i - 1]? = some q → q.1 < v := fun q _ h => by rw [hpb] at h; cases h; simp only; omega
          have g2 : decide (v ≤ pv) = false := decide_eq_false hle
          have HS := hide hasc
          clear hpb hle hasc
          cases hv : valT tn
          · obtain rfl : o = false := by rw [← hE.out]; exact subF_bad HB0.out (.inr hv)
            have fd0 : Hid (w1.drew.cell? ⟨bx, 0, none⟩ = some (.int .i64 v)) := b0
            have fd1 : Hid (w1.drew.cell? ⟨bx, 1, none⟩ = some (.slice ta tn.length tc)) := b1
            have fd2 : Hid (w1.drew.cell? ⟨k, off + (i - 1) * 2, none⟩ = some (.int .i64 pv)) := b2
            have HBd : Hid (Below w.heap.size w w1.drew) := below_drew (unhide HB1)
            have HMd := hide (IMap.drew (unhide HM1))
            have HId : Hid (InC w1.drew ta (tn.flatMap ndCells)) := (unhide HI1).drew
            have hzd : w.heap.size < w1.drew.heap.size := hz1
            have hxd : bx < w1.drew.heap.size := hxl
            have hkd : k < w1.drew.heap.size := hkb
            refine wp_region_noPanic ?_
            refine wp_region_held_drew (S := fun W => W.cell? ⟨bx, 0, none⟩ = some (.int .i64 v) ∧ W.cell? ⟨bx, 1, none⟩ = some (.slice ta tn.length tc) ∧ W.cell? ⟨k, off + (i - 1) * 2, none⟩ = some (.int .i64 pv)) (by kernel_rfl) ⟨fd0, fd1, fd2⟩ (fun _ => ?_)
            generalize w1.drew = wd at *
            try simp only [Act.put, List.setIfInBounds_toArray, List.set_cons_zero, List.set_cons_succ]
            refine wpAnyH_take (i := 0) (oi := { dst := some 15, op := Op.move (Operand.tmp 5), type := 3, pos := "types.go:164", after := #[], guard := none }) (v := ?_) rfl (by kernel_rfl) (by kernel_rfl) (by kernel_rfl) (fun _ _ _ h => h) (Or.inl ⟨by rfl, ?_⟩) ⟨fd0, fd1, fd2⟩ ?_
            rotate_left 1
            · intro w hSw
              obtain ⟨hSw0, hSw1, hSw2⟩ := hSw
              go_simp
              first
                | done
                | with_reducible rfl
                | rw [if_neg (by omega)]
            try simp only [Act.put, List.setIfInBounds_toArray, List.set_cons_zero, List.set_cons_succ]
            refine wpAnyH_take (i := 1) (oi := { dst := some 16, op := Op.binOp BinOp.gtr 3 (Operand.tmp 15) (Operand.const (Value.int IntKind.i64 0)) 3, type := 4, pos := "types.go:164", after := #[{ on := 0, ground := Ground.data }], guard := none }) (v := ?_) rfl (by kernel_rfl) (by kernel_rfl) (by kernel_rfl) (fun _ _ _ h => h) (Or.inl ⟨by rfl, ?_⟩) ⟨fd0, fd1, fd2⟩ ?_
            rotate_left 1
            · intro w hSw
              obtain ⟨hSw0, hSw1, hSw2⟩ := hSw
              go_simp
              first
                | done
                | with_reducible rfl
                | rw [if_neg (by omega)]
            try simp only [Act.put, List.setIfInBounds_toArray, List.set_cons_zero, List.set_cons_succ]
            refine wpAnyH_take (i := 2) (oi := { dst := some 17, op := Op.move (Operand.tmp 16), type := 4, pos := "types.go:164", after := #[{ on := 1, ground := Ground.data }], guard := none }) (v := ?_) rfl (by kernel_rfl) (by kernel_rfl) (by kernel_rfl) (fun _ _ _ h => h) (Or.inl ⟨by rfl, ?_⟩) ⟨fd0, fd1, fd2⟩ ?_
            rotate_left 1
            · intro w hSw
              obtain ⟨hSw0, hSw1, hSw2⟩ := hSw
              go_simp
              first
                | done
                | with_reducible rfl
                | rw [if_neg (by omega)]
            try simp only [Act.put, List.setIfInBounds_toArray, List.set_cons_zero, List.set_cons_succ]
            refine wpAnyH_take (i := 3) (oi := { dst := some 18, op := Op.fieldAddr 43 (Operand.tmp 6) 0, type := 0, pos := "types.go:164", after := #[{ on := 2, ground := Ground.guard }], guard := some (2, true) }) (v := ?_) rfl (by kernel_rfl) (by kernel_rfl) (by kernel_rfl) (fun _ _ _ h => h) (Or.inl ⟨by rfl, ?_⟩) ⟨fd0, fd1, fd2⟩ ?_
            rotate_left 1
            · intro w hSw
              obtain ⟨hSw0, hSw1, hSw2⟩ := hSw
              go_simp
              first
                | done
                | with_reducible rfl
                | rw [if_neg (by omega)]
            try simp only [Act.put, List.setIfInBounds_toArray, List.set_cons_zero, List.set_cons_succ]
            refine wpAnyH_take (i := 4) (oi := { dst := some 19, op := Op.load 3 (Operand.tmp 18), type := 3, pos := "types.go:164", after := #[{ on := 3, ground := Ground.data }, { on := 2, ground := Ground.guard }], guard := some (2, true) }) (v := ?_) rfl (by kernel_rfl) (by kernel_rfl) (by kernel_rfl) (fun _ _ _ h => h) (Or.inl ⟨by rfl, ?_⟩) ⟨fd0, fd1, fd2⟩ ?_
            rotate_left 1
            · intro w hSw
              obtain ⟨hSw0, hSw1, hSw2⟩ := hSw
              go_simp
              first
                | done
                | with_reducible rfl
                | rw [if_neg (by omega)]
            try simp only [Act.put, List.setIfInBounds_toArray, List.set_cons_zero, List.set_cons_succ]
            refine wpAnyH_take (i := 5) (oi := { dst := some 20, op := Op.move (Operand.tmp 0), type := 38, pos := "types.go:164", after := #[{ on := 2, ground := Ground.guard }], guard := some (2, true) }) (v := ?_) rfl (by kernel_rfl) (by kernel_rfl) (by kernel_rfl) (fun _ _ _ h => h) (Or.inl ⟨by rfl, ?_⟩) ⟨fd0, fd1, fd2⟩ ?_
            rotate_left 1
            · intro w hSw
              obtain ⟨hSw0, hSw1, hSw2⟩ := hSw
              go_simp
              first
                | done
                | with_reducible rfl
                | rw [if_neg (by omega)]
            try simp only [Act.put, List.setIfInBounds_toArray, List.set_cons_zero, List.set_cons_succ]
            refine wpAnyH_take (i := 6) (oi := { dst := some 21, op := Op.move (Operand.tmp 5), type := 3, pos := "types.go:164", after := #[{ on := 2, ground := Ground.guard }], guard := some (2, true) }) (v := ?_) rfl (by kernel_rfl) (by kernel_rfl) (by kernel_rfl) (fun _ _ _ h => h) (Or.inl ⟨by rfl, ?_⟩) ⟨fd0, fd1, fd2⟩ ?_
            rotate_left 1
            · intro w hSw
              obtain ⟨hSw0, hSw1, hSw2⟩ := hSw
              go_simp
              first
                | done
                | with_reducible rfl
                | rw [if_neg (by omega)]
            try simp only [Act.put, List.setIfInBounds_toArray, List.set_cons_zero, List.set_cons_succ]
            refine wpAnyH_take (i := 7) (oi := { dst := some 22, op := Op.binOp BinOp.sub 3 (Operand.tmp 21) (Operand.const (Value.int IntKind.i64 1)) 3, type := 3, pos := "types.go:164", after := #[{ on := 6, ground := Ground.data }, { on := 2, ground := Ground.guard }], guard := some (2, true) }) (v := ?_) rfl (by kernel_rfl) (by kernel_rfl) (by kernel_rfl) (fun _ _ _ h => h) (Or.inl ⟨by rfl, ?_⟩) ⟨fd0, fd1, fd2⟩ ?_
            rotate_left 1
            · intro w hSw
              obtain ⟨hSw0, hSw1, hSw2⟩ := hSw
              go_simp
              first
                | done
                | with_reducible rfl
                | rw [if_neg (by omega)]
            try simp only [Act.put, List.setIfInBounds_toArray, List.set_cons_zero, List.set_cons_succ]
            refine wpAnyH_take (i := 8) (oi := { dst := some 23, op := Op.indexAddr 38 (Operand.tmp 20) (Operand.tmp 22), type := 0, pos := "types.go:164", after := #[{ on := 5, ground := Ground.data }, { on := 7, ground := Ground.data }, { on := 2, ground := Ground.guard }], guard := some (2, true) }) (v := ?_) rfl (by kernel_rfl) (by kernel_rfl) (by kernel_rfl) (fun _ _ _ h => h) (Or.inl ⟨by rfl, ?_⟩) ⟨fd0, fd1, fd2⟩ ?_
            rotate_left 1
            · intro w hSw
              obtain ⟨hSw0, hSw1, hSw2⟩ := hSw
              go_simp
              first
                | done
                | with_reducible rfl
                | rw [if_neg (by omega)]
            try simp only [Act.put, List.setIfInBounds_toArray, List.set_cons_zero, List.set_cons_succ]
            refine wpAnyH_take (i := 9) (oi := { dst := some 24, op := Op.fieldAddr 43 (Operand.tmp 23) 0, type := 0, pos := "types.go:164", after := #[{ on := 8, ground := Ground.data }, { on := 2, ground := Ground.guard }], guard := some (2, true) }) (v := ?_) rfl (by kernel_rfl) (by kernel_rfl) (by kernel_rfl) (fun _ _ _ h => h) (Or.inl ⟨by rfl, ?_⟩) ⟨fd0, fd1, fd2⟩ ?_
            rotate_left 1
            · intro w hSw
              obtain ⟨hSw0, hSw1, hSw2⟩ := hSw
              go_simp
              first
                | done
                | with_reducible rfl
                | rw [if_neg (by omega)]
            try simp only [Act.put, List.setIfInBounds_toArray, List.set_cons_zero, List.set_cons_succ]
            refine wpAnyH_take (i := 10) (oi := { dst := some 25, op := Op.load 3 (Operand.tmp 24), type := 3, pos := "types.go:164", after := #[{ on := 9, ground := Ground.data }, { on := 2, ground := Ground.guard }], guard := some (2, true) }) (v := ?_) rfl (by kernel_rfl) (by kernel_rfl) (by kernel_rfl) (fun _ _ _ h => h) (Or.inl ⟨by rfl, ?_⟩) ⟨fd0, fd1, fd2⟩ ?_
            rotate_left 1
            · intro w hSw
              obtain ⟨hSw0, hSw1, hSw2⟩ := hSw
              go_simp
              first
                | done
                | with_reducible rfl
                | rw [if_neg (by omega)]
            try simp only [Act.put, List.setIfInBounds_toArray, List.set_cons_zero, List.set_cons_succ]
            refine wpAnyH_take (i := 11) (oi := { dst := some 26, op := Op.binOp BinOp.leq 3 (Operand.tmp 19) (Operand.tmp 25) 3, type := 4, pos := "types.go:164", after := #[{ on := 4, ground := Ground.data }, { on := 10, ground := Ground.data }, { on := 2, ground := Ground.guard }], guard := some (2, true) }) (v := ?_) rfl (by kernel_rfl) (by kernel_rfl) (by kernel_rfl) (fun _ _ _ h => h) (Or.inl ⟨by rfl, ?_⟩) ⟨fd0, fd1, fd2⟩ ?_
            rotate_left 1
            · intro w hSw
              obtain ⟨hSw0, hSw1, hSw2⟩ := hSw
              go_simp
              first
                | done
                | with_reducible rfl
                | rw [if_neg (by omega)]
            try simp only [Act.put, List.setIfInBounds_toArray, List.set_cons_zero, List.set_cons_succ]
            refine wpAnyH_take (i := 12) (oi := { dst := some 27, op := Op.pick (Operand.tmp 17) (Operand.tmp 26) (Operand.const (Value.bool false)), type := 4, pos := "types.go:164", after := #[{ on := 2, ground := Ground.data }, { on := 11, ground := Ground.data }], guard := none }) (v := ?_) rfl (by kernel_rfl) (by kernel_rfl) (by kernel_rfl) (fun _ _ _ h => h) (Or.inl ⟨by rfl, ?_⟩) ⟨fd0, fd1, fd2⟩ ?_
            rotate_left 1
            · intro w hSw
              obtain ⟨hSw0, hSw1, hSw2⟩ := hSw
              go_simp
              first
                | done
                | with_reducible rfl
                | rw [if_neg (by omega)]
            try simp only [Act.put, List.setIfInBounds_toArray, List.set_cons_zero, List.set_cons_succ]
            refine wpAnyH_take (i := 13) (oi := { dst := some 28, op := Op.move (Operand.tmp 27), type := 4, pos := "types.go:164", after := #[{ on := 12, ground := Ground.data }, { on := 2, ground := Ground.chain }], guard := none }) (v := ?_) rfl (by kernel_rfl) (by kernel_rfl) (by kernel_rfl) (fun _ _ _ h => h) (Or.inl ⟨by rfl, ?_⟩) ⟨fd0, fd1, fd2⟩ ?_
            rotate_left 1
            · intro w hSw
              obtain ⟨hSw0, hSw1, hSw2⟩ := hSw
              go_simp
              first
                | done
                | with_reducible rfl
                | rw [if_neg (by omega)]
            try simp only [Act.put, List.setIfInBounds_toArray, List.set_cons_zero, List.set_cons_succ]
            refine wpAnyH_take (i := 14) (oi := { dst := some 29, op := Op.fieldAddr 43 (Operand.tmp 6) 1, type := 0, pos := "types.go:164", after := #[{ on := 13, ground := Ground.guard }], guard := some (13, false) }) (v := ?_) rfl (by kernel_rfl) (by kernel_rfl) (by kernel_rfl) (fun _ _ _ h => h) (Or.inl ⟨by rfl, ?_⟩) ⟨fd0, fd1, fd2⟩ ?_
            rotate_left 1
            · intro w hSw
              obtain ⟨hSw0, hSw1, hSw2⟩ := hSw
              go_simp
              first
                | done
                | with_reducible rfl
                | rw [if_neg (by omega)]
            try simp only [Act.put, List.setIfInBounds_toArray, List.set_cons_zero, List.set_cons_succ]
            refine wpAnyH_take (i := 15) (oi := { dst := some 30, op := Op.load 22 (Operand.tmp 29), type := 22, pos := "types.go:164", after := #[{ on := 14, ground := Ground.data }, { on := 13, ground := Ground.guard }], guard := some (13, false) }) (v := ?_) rfl (by kernel_rfl) (by kernel_rfl) (by kernel_rfl) (fun _ _ _ h => h) (Or.inl ⟨by rfl, ?_⟩) ⟨fd0, fd1, fd2⟩ ?_
            rotate_left 1
            · intro w hSw
              obtain ⟨hSw0, hSw1, hSw2⟩ := hSw
              go_simp
              first
                | done
                | with_reducible rfl
                | rw [if_neg (by omega)]
            try simp only [Act.put, List.setIfInBounds_toArray, List.set_cons_zero, List.set_cons_succ]
            refine wpAnyH_ready (rs := [16]) (by kernel_rfl) (by simp) ?_
            refine AllReadyH.cons (o := { dst := some 31, op := Op.call { callee := Callee.value (Operand.func 7), args := #[Operand.tmp 30], argTypes := #[22] }, type := 4, pos := "types.go:164", after := #[{ on := 15, ground := Ground.data }, { on := 13, ground := Ground.chain }, { on := 13, ground := Ground.guard }], guard := some (13, false) }) rfl (fun K hK => ?_) AllReadyH.nil
            go_simp
            go_at_call 7
            refine (valid_b tn _ hv wd ta tc (by unfold maxLen; omega) hmc (unhide HId)).mono ?_
            rintro e w503 ⟨rfl, hb503⟩
            have HB503 := hide ((unhide HBd).trans (hb503.mono (unhide HBd).size))
            have HM503 := hide ((unhide HMd).below hb503 hzd)
            have hz503 : w.heap.size < w503.heap.size := Nat.lt_of_lt_of_le hzd hb503.size
            have e0_503 := (hb503.cell (p := ⟨bx, 0, none⟩) hxd).trans fd0
            have e1_503 := (hb503.cell (p := ⟨bx, 1, none⟩) hxd).trans fd1
            have e2_503 := (hb503.cell (p := ⟨k, off + (i - 1) * 2, none⟩) hkd).trans fd2
            clear hb503
            try dsimp only
            refine hK.out _ _ ⟨e0_503, e1_503, e2_503⟩ (fun _ => ?_)
            clear hK K
            try simp only [Act.put, List.setIfInBounds_toArray, List.set_cons_zero, List.set_cons_succ]
            refine wpAnyH_take (i := 17) (oi := { dst := some 32, op := Op.unOp UnOp.not 4 (Operand.tmp 31), type := 4, pos := "types.go:164", after := #[{ on := 16, ground := Ground.data }, { on := 13, ground := Ground.guard }], guard := some (13, false) }) (v := ?_) rfl (by kernel_rfl) (by kernel_rfl) (by kernel_rfl) (fun _ _ _ h => h) (Or.inl ⟨by rfl, ?_⟩) ⟨e0_503, e1_503, e2_503⟩ ?_
            rotate_left 1
            · intro w hSw
              obtain ⟨hSw0, hSw1, hSw2⟩ := hSw
              go_simp
              first
                | done
                | with_reducible rfl
                | rw [if_neg (by omega)]
            try simp only [Act.put, List.setIfInBounds_toArray, List.set_cons_zero, List.set_cons_succ]
            refine wpAnyH_take (i := 18) (oi := { dst := some 33, op := Op.pick (Operand.tmp 28) (Operand.const (Value.bool true)) (Operand.tmp 32), type := 4, pos := "types.go:164", after := #[{ on := 13, ground := Ground.data }, { on := 17, ground := Ground.data }], guard := none }) (v := ?_) rfl (by kernel_rfl) (by kernel_rfl) (by kernel_rfl) (fun _ _ _ h => h) (Or.inl ⟨by rfl, ?_⟩) ⟨e0_503, e1_503, e2_503⟩ ?_
            rotate_left 1
            · intro w hSw
              obtain ⟨hSw0, hSw1, hSw2⟩ := hSw
              go_simp
              first
                | done
                | with_reducible rfl
                | rw [if_neg (by omega)]
            try simp only [Act.put, List.setIfInBounds_toArray, List.set_cons_zero, List.set_cons_succ]
            refine wpAnyH_done (by kernel_rfl) ?_ _
            refine NoPanic.normal ?_
            go_wp2_with fail
            go_ret2
            exact ⟨unhide HB503, rfl⟩
          · have fd0 : Hid (w1.drew.cell? ⟨bx, 0, none⟩ = some (.int .i64 v)) := b0
            have fd1 : Hid (w1.drew.cell? ⟨bx, 1, none⟩ = some (.slice ta tn.length tc)) := b1
            have fd2 : Hid (w1.drew.cell? ⟨k, off + (i - 1) * 2, none⟩ = some (.int .i64 pv)) := b2
            have HBd : Hid (Below w.heap.size w w1.drew) := below_drew (unhide HB1)
            have HMd := hide (IMap.drew (unhide HM1))
            have HId : Hid (InC w1.drew ta (tn.flatMap ndCells)) := (unhide HI1).drew
            have hzd : w.heap.size < w1.drew.heap.size := hz1
            have hxd : bx < w1.drew.heap.size := hxl
            have hkd : k < w1.drew.heap.size := hkb
            refine wp_region_noPanic ?_
            refine wp_region_held_drew (S := fun W => W.cell? ⟨bx, 0, none⟩ = some (.int .i64 v) ∧ W.cell? ⟨bx, 1, none⟩ = some (.slice ta tn.length tc) ∧ W.cell? ⟨k, off + (i - 1) * 2, none⟩ = some (.int .i64 pv)) (by kernel_rfl) ⟨fd0, fd1, fd2⟩ (fun _ => ?_)
            generalize w1.drew = wd at *
            try simp only [Act.put, List.setIfInBounds_toArray, List.set_cons_zero, List.set_cons_succ]
            refine wpAnyH_take (i := 0) (oi := { dst := some 15, op := Op.move (Operand.tmp 5), type := 3, pos := "types.go:164", after := #[], guard := none }) (v := ?_) rfl (by kernel_rfl) (by kernel_rfl) (by kernel_rfl) (fun _ _ _ h => h) (Or.inl ⟨by rfl, ?_⟩) ⟨fd0, fd1, fd2⟩ ?_
            rotate_left 1
            · intro w hSw
              obtain ⟨hSw0, hSw1, hSw2⟩ := hSw
              go_simp
              first
                | done
                | with_reducible rfl
                | rw [if_neg (by omega)]
            try simp only [Act.put, List.setIfInBounds_toArray, List.set_cons_zero, List.set_cons_succ]
            refine wpAnyH_take (i := 1) (oi := { dst := some 16, op := Op.binOp BinOp.gtr 3 (Operand.tmp 15) (Operand.const (Value.int IntKind.i64 0)) 3, type := 4, pos := "types.go:164", after := #[{ on := 0, ground := Ground.data }], guard := none }) (v := ?_) rfl (by kernel_rfl) (by kernel_rfl) (by kernel_rfl) (fun _ _ _ h => h) (Or.inl ⟨by rfl, ?_⟩) ⟨fd0, fd1, fd2⟩ ?_
            rotate_left 1
            · intro w hSw
              obtain ⟨hSw0, hSw1, hSw2⟩ := hSw
              go_simp
              first
                | done
                | with_reducible rfl
                | rw [if_neg (by omega)]
            try simp only [Act.put, List.setIfInBounds_toArray, List.set_cons_zero, List.set_cons_succ]
            refine wpAnyH_take (i := 2) (oi := { dst := some 17, op := Op.move (Operand.tmp 16), type := 4, pos := "types.go:164", after := #[{ on := 1, ground := Ground.data }], guard := none }) (v := ?_) rfl (by kernel_rfl) (by kernel_rfl) (by kernel_rfl) (fun _ _ _ h => h) (Or.inl ⟨by rfl, ?_⟩) ⟨fd0, fd1, fd2⟩ ?_
            rotate_left 1
            · intro w hSw
              obtain ⟨hSw0, hSw1, hSw2⟩ := hSw
              go_simp
              first
                | done
                | with_reducible rfl
                | rw [if_neg (by omega)]
            try simp only [Act.put, List.setIfInBounds_toArray, List.set_cons_zero, List.set_cons_succ]
            refine wpAnyH_take (i := 3) (oi := { dst := some 18, op := Op.fieldAddr 43 (Operand.tmp 6) 0, type := 0, pos := "types.go:164", after := #[{ on := 2, ground := Ground.guard }], guard := some (2, true) }) (v := ?_) rfl (by kernel_rfl) (by kernel_rfl) (by kernel_rfl) (fun _ _ _ h => h) (Or.inl ⟨by rfl, ?_⟩) ⟨fd0, fd1, fd2⟩ ?_
            rotate_left 1
            · intro w hSw
              obtain ⟨hSw0, hSw1, hSw2⟩ := hSw
              go_simp
              first
                | done
                | with_reducible rfl
                | rw [if_neg (by omega)]
            try simp only [Act.put, List.setIfInBounds_toArray, List.set_cons_zero, List.set_cons_succ]
            refine wpAnyH_take (i := 4) (oi := { dst := some 19, op := Op.load 3 (Operand.tmp 18), type := 3, pos := "types.go:164", after := #[{ on := 3, ground := Ground.data }, { on := 2, ground := Ground.guard }], guard := some (2, true) }) (v := ?_) rfl (by kernel_rfl) (by kernel_rfl) (by kernel_rfl) (fun _ _ _ h => h) (Or.inl ⟨by rfl, ?_⟩) ⟨fd0, fd1, fd2⟩ ?_
            rotate_left 1
            · intro w hSw
              obtain ⟨hSw0, hSw1, hSw2⟩ := hSw
              go_simp
              first
                | done
                | with_reducible rfl
                | rw [if_neg (by omega)]
            try simp only [Act.put, List.setIfInBounds_toArray, List.set_cons_zero, List.set_cons_succ]
            refine wpAnyH_take (i := 5) (oi := { dst := some 20, op := Op.move (Operand.tmp 0), type := 38, pos := "types.go:164", after := #[{ on := 2, ground := Ground.guard }], guard := some (2, true) }) (v := ?_) rfl (by kernel_rfl) (by kernel_rfl) (by kernel_rfl) (fun _ _ _ h => h) (Or.inl ⟨by rfl, ?_⟩) ⟨fd0, fd1, fd2⟩ ?_
            rotate_left 1
            · intro w hSw
              obtain ⟨hSw0, hSw1, hSw2⟩ := hSw
              go_simp
              first
                | done
                | with_reducible rfl
                | rw [if_neg (by omega)]
            try simp only [Act.put, List.setIfInBounds_toArray, List.set_cons_zero, List.set_cons_succ]
            refine wpAnyH_take (i := 6) (oi := { dst := some 21, op := Op.move (Operand.tmp 5), type := 3, pos := "types.go:164", after := #[{ on := 2, ground := Ground.guard }], guard := some (2, true) }) (v := ?_) rfl (by kernel_rfl) (by kernel_rfl) (by kernel_rfl) (fun _ _ _ h => h) (Or.inl ⟨by rfl, ?_⟩) ⟨fd0, fd1, fd2⟩ ?_
            rotate_left 1
            · intro w hSw
              obtain ⟨hSw0, hSw1, hSw2⟩ := hSw
              go_simp
              first
                | done
                | with_reducible rfl
                | rw [if_neg (by omega)]
            try simp only [Act.put, List.setIfInBounds_toArray, List.set_cons_zero, List.set_cons_succ]
            refine wpAnyH_take (i := 7) (oi := { dst := some 22, op := Op.binOp BinOp.sub 3 (Operand.tmp 21) (Operand.const (Value.int IntKind.i64 1)) 3, type := 3, pos := "types.go:164", after := #[{ on := 6, ground := Ground.data }, { on := 2, ground := Ground.guard }], guard := some (2, true) }) (v := ?_) rfl (by kernel_rfl) (by kernel_rfl) (by kernel_rfl) (fun _ _ _ h => h) (Or.inl ⟨by rfl, ?_⟩) ⟨fd0, fd1, fd2⟩ ?_
            rotate_left 1
            · intro w hSw
              obtain ⟨hSw0, hSw1, hSw2⟩ := hSw
              go_simp
              first
                | done
                | with_reducible rfl
                | rw [if_neg (by omega)]
            try simp only [Act.put, List.setIfInBounds_toArray, List.set_cons_zero, List.set_cons_succ]
            refine wpAnyH_take (i := 8) (oi := { dst := some 23, op := Op.indexAddr 38 (Operand.tmp 20) (Operand.tmp 22), type := 0, pos := "types.go:164", after := #[{ on := 5, ground := Ground.data }, { on := 7, ground := Ground.data }, { on := 2, ground := Ground.guard }], guard := some (2, true) }) (v := ?_) rfl (by kernel_rfl) (by kernel_rfl) (by kernel_rfl) (fun _ _ _ h => h) (Or.inl ⟨by rfl, ?_⟩) ⟨fd0, fd1, fd2⟩ ?_
            rotate_left 1
            · intro w hSw
              obtain ⟨hSw0, hSw1, hSw2⟩ := hSw
              go_simp
              first
                | done
                | with_reducible rfl
                | rw [if_neg (by omega)]
            try simp only [Act.put, List.setIfInBounds_toArray, List.set_cons_zero, List.set_cons_succ]
            refine wpAnyH_take (i := 9) (oi := { dst := some 24, op := Op.fieldAddr 43 (Operand.tmp 23) 0, type := 0, pos := "types.go:164", after := #[{ on := 8, ground := Ground.data }, { on := 2, ground := Ground.guard }], guard := some (2, true) }) (v := ?_) rfl (by kernel_rfl) (by kernel_rfl) (by kernel_rfl) (fun _ _ _ h => h) (Or.inl ⟨by rfl, ?_⟩) ⟨fd0, fd1, fd2⟩ ?_
            rotate_left 1
            · intro w hSw
              obtain ⟨hSw0, hSw1, hSw2⟩ := hSw
              go_simp
              first
                | done
                | with_reducible rfl
                | rw [if_neg (by omega)]
            try simp only [Act.put, List.setIfInBounds_toArray, List.set_cons_zero, List.set_cons_succ]
            refine wpAnyH_take (i := 10) (oi := { dst := some 25, op := Op.load 3 (Operand.tmp 24), type := 3, pos := "types.go:164", after := #[{ on := 9, ground := Ground.data }, { on := 2, ground := Ground.guard }], guard := some (2, true) }) (v := ?_) rfl (by kernel_rfl) (by kernel_rfl) (by kernel_rfl) (fun _ _ _ h => h) (Or.inl ⟨by rfl, ?_⟩) ⟨fd0, fd1, fd2⟩ ?_
            rotate_left 1
            · intro w hSw
              obtain ⟨hSw0, hSw1, hSw2⟩ := hSw
              go_simp
              first
                | done
                | with_reducible rfl
                | rw [if_neg (by omega)]
            try simp only [Act.put, List.setIfInBounds_toArray, List.set_cons_zero, List.set_cons_succ]
            refine wpAnyH_take (i := 11) (oi := { dst := some 26, op := Op.binOp BinOp.leq 3 (Operand.tmp 19) (Operand.tmp 25) 3, type := 4, pos := "types.go:164", after := #[{ on := 4, ground := Ground.data }, { on := 10, ground := Ground.data }, { on := 2, ground := Ground.guard }], guard := some (2, true) }) (v := ?_) rfl (by kernel_rfl) (by kernel_rfl) (by kernel_rfl) (fun _ _ _ h => h) (Or.inl ⟨by rfl, ?_⟩) ⟨fd0, fd1, fd2⟩ ?_
            rotate_left 1
            · intro w hSw
              obtain ⟨hSw0, hSw1, hSw2⟩ := hSw
              go_simp
              first
                | done
                | with_reducible rfl
                | rw [if_neg (by omega)]
            try simp only [Act.put, List.setIfInBounds_toArray, List.set_cons_zero, List.set_cons_succ]
            refine wpAnyH_take (i := 12) (oi := { dst := some 27, op := Op.pick (Operand.tmp 17) (Operand.tmp 26) (Operand.const (Value.bool false)), type := 4, pos := "types.go:164", after := #[{ on := 2, ground := Ground.data }, { on := 11, ground := Ground.data }], guard := none }) (v := ?_) rfl (by kernel_rfl) (by kernel_rfl) (by kernel_rfl) (fun _ _ _ h => h) (Or.inl ⟨by rfl, ?_⟩) ⟨fd0, fd1, fd2⟩ ?_
            rotate_left 1
            · intro w hSw
              obtain ⟨hSw0, hSw1, hSw2⟩ := hSw
              go_simp
              first
                | done
                | with_reducible rfl
                | rw [if_neg (by omega)]
            try simp only [Act.put, List.setIfInBounds_toArray, List.set_cons_zero, List.set_cons_succ]
            refine wpAnyH_take (i := 13) (oi := { dst := some 28, op := Op.move (Operand.tmp 27), type := 4, pos := "types.go:164", after := #[{ on := 12, ground := Ground.data }, { on := 2, ground := Ground.chain }], guard := none }) (v := ?_) rfl (by kernel_rfl) (by kernel_rfl) (by kernel_rfl) (fun _ _ _ h => h) (Or.inl ⟨by rfl, ?_⟩) ⟨fd0, fd1, fd2⟩ ?_
            rotate_left 1
            · intro w hSw
              obtain ⟨hSw0, hSw1, hSw2⟩ := hSw
              go_simp
              first
                | done
                | with_reducible rfl
                | rw [if_neg (by omega)]
            try simp only [Act.put, List.setIfInBounds_toArray, List.set_cons_zero, List.set_cons_succ]
            refine wpAnyH_take (i := 14) (oi := { dst := some 29, op := Op.fieldAddr 43 (Operand.tmp 6) 1, type := 0, pos := "types.go:164", after := #[{ on := 13, ground := Ground.guard }], guard := some (13, false) }) (v := ?_) rfl (by kernel_rfl) (by kernel_rfl) (by kernel_rfl) (fun _ _ _ h => h) (Or.inl ⟨by rfl, ?_⟩) ⟨fd0, fd1, fd2⟩ ?_
            rotate_left 1
            · intro w hSw
              obtain ⟨hSw0, hSw1, hSw2⟩ := hSw
              go_simp
              first
                | done
                | with_reducible rfl
                | rw [if_neg (by omega)]
            try simp only [Act.put, List.setIfInBounds_toArray, List.set_cons_zero, List.set_cons_succ]
            refine wpAnyH_take (i := 15) (oi := { dst := some 30, op := Op.load 22 (Operand.tmp 29), type := 22, pos := "types.go:164", after := #[{ on := 14, ground := Ground.data }, { on := 13, ground := Ground.guard }], guard := some (13, false) }) (v := ?_) rfl (by kernel_rfl) (by kernel_rfl) (by kernel_rfl) (fun _ _ _ h => h) (Or.inl ⟨by rfl, ?_⟩) ⟨fd0, fd1, fd2⟩ ?_
            rotate_left 1
            · intro w hSw
              obtain ⟨hSw0, hSw1, hSw2⟩ := hSw
              go_simp
              first
                | done
                | with_reducible rfl
                | rw [if_neg (by omega)]
            try simp only [Act.put, List.setIfInBounds_toArray, List.set_cons_zero, List.set_cons_succ]
            refine wpAnyH_ready (rs := [16]) (by kernel_rfl) (by simp) ?_
            refine AllReadyH.cons (o := { dst := some 31, op := Op.call { callee := Callee.value (Operand.func 7), args := #[Operand.tmp 30], argTypes := #[22] }, type := 4, pos := "types.go:164", after := #[{ on := 15, ground := Ground.data }, { on := 13, ground := Ground.chain }, { on := 13, ground := Ground.guard }], guard := some (13, false) }) rfl (fun K hK => ?_) AllReadyH.nil
            go_simp
            go_at_call 7
            refine (valid_b tn _ hv wd ta tc (by unfold maxLen; omega) hmc (unhide HId)).mono ?_
            rintro e w504 ⟨rfl, hb504⟩
            have HB504 := hide ((unhide HBd).trans (hb504.mono (unhide HBd).size))
            have HM504 := hide ((unhide HMd).below hb504 hzd)
            have hz504 : w.heap.size < w504.heap.size := Nat.lt_of_lt_of_le hzd hb504.size
            have e0_504 := (hb504.cell (p := ⟨bx, 0, none⟩) hxd).trans fd0
            have e1_504 := (hb504.cell (p := ⟨bx, 1, none⟩) hxd).trans fd1
            have e2_504 := (hb504.cell (p := ⟨k, off + (i - 1) * 2, none⟩) hkd).trans fd2
            clear hb504
            try dsimp only
            refine hK.out _ _ ⟨e0_504, e1_504, e2_504⟩ (fun _ => ?_)
            clear hK K
            try simp only [Act.put, List.setIfInBounds_toArray, List.set_cons_zero, List.set_cons_succ]
            refine wpAnyH_take (i := 17) (oi := { dst := some 32, op := Op.unOp UnOp.not 4 (Operand.tmp 31), type := 4, pos := "types.go:164", after := #[{ on := 16, ground := Ground.data }, { on := 13, ground := Ground.guard }], guard := some (13, false) }) (v := ?_) rfl (by kernel_rfl) (by kernel_rfl) (by kernel_rfl) (fun _ _ _ h => h) (Or.inl ⟨by rfl, ?_⟩) ⟨e0_504, e1_504, e2_504⟩ ?_
            rotate_left 1
            · intro w hSw
              obtain ⟨hSw0, hSw1, hSw2⟩ := hSw
              go_simp
              first
                | done
                | with_reducible rfl
                | rw [if_neg (by omega)]
            try simp only [Act.put, List.setIfInBounds_toArray, List.set_cons_zero, List.set_cons_succ]
            refine wpAnyH_take (i := 18) (oi := { dst := some 33, op := Op.pick (Operand.tmp 28) (Operand.const (Value.bool true)) (Operand.tmp 32), type := 4, pos := "types.go:164", after := #[{ on := 13, ground := Ground.data }, { on := 17, ground := Ground.data }], guard := none }) (v := ?_) rfl (by kernel_rfl) (by kernel_rfl) (by kernel_rfl) (fun _ _ _ h => h) (Or.inl ⟨by rfl, ?_⟩) ⟨e0_504, e1_504, e2_504⟩ ?_
            rotate_left 1
            · intro w hSw
              obtain ⟨hSw0, hSw1, hSw2⟩ := hSw
              go_simp
              first
                | done
                | with_reducible rfl
                | rw [if_neg (by omega)]
            try simp only [Act.put, List.setIfInBounds_toArray, List.set_cons_zero, List.set_cons_succ]
            refine wpAnyH_done (by kernel_rfl) ?_ _
            refine NoPanic.normal ?_
            have hasc := unhide HS
            have hfk := fresh_key hLL.out HB0.out hasc
            have HE2 := Lib.hid ((subF_ok HB0.out hasc hv).symm.trans hE.out)
            have HL2 := hide (LeLast.step hLL.out HB0.out hasc)
            have HT2 : Hid ((bs.take (i + 1)).map (fun b => (b.1, tsV b.2)) = (bs.take i).map (fun b => (b.1, tsV b.2)) ++ [(v, Value.slice ta tn.length tc)]) := by
              show List.map _ _ = _
              rw [List.take_add_one, HB0.out]; simp
            clear hasc hv
            go_wp2_with (at_mapUpdate; refine wpList_put_i _ rfl _ _ _ 68 rfl 3 22 Tryd.underlying68 Tryd.underlying3 w.heap.size _ v (.slice ta tn.length tc) rfl rfl rfl (unhide HM504) hfk ?_; intro w9 hm9 hg9)
            have HB9 := hide (below_grown (unhide HB504) hg9 (Nat.le_refl _) (Nat.le_refl _))
            have HM9 := hide hm9
            have hz9 : w.heap.size < w9.heap.size := Nat.lt_of_lt_of_le hz504 hg9.size
            clear hm9 hg9 hfk
            go_wp2_with fail
            go_roundw
            case rel => exact ⟨i + 1, by first | rfl | go_num, by omega, HE2.out, unhide HL2, by rw [HT2.out]; exact unhide HM9, unhide HB9, hz9⟩
            case measure => simp [intOf]; omega
    · have hin : n - i = 0 := by omega
      have hdr : bs.drop i = [] := List.drop_eq_nil_of_le (by rw [← HN.out]; omega)
      have htk : bs.take i = bs := List.take_of_length_le (by rw [← HN.out]; omega)
      obtain rfl : o = true := by rw [← hE.out, hdr]; rfl
      have HM2 : Hid (IMap wr w.heap.size (bs.map fun b => (b.1, tsV b.2))) := by
        have h := unhide hM
        rw [htk] at h
        exact h
      clear hdr htk hM hin
      go_wp2_with fail
      go_ret2
      exact ⟨hB.out, w.heap.size, rfl, Nat.le_refl _, unhide HM2⟩

end Go.Proofs.YtcnanbmbdajcaaaDoor
