/- The reference's match at a variable. Condition: at most 512 nodes, at most 2048 bindings. -/
-- by tools/gen_rmatch.py
import Derived.Test.YtcnanbmbdajcaaaDoorTyY8
namespace Go.Proofs.YtcnanbmbdajcaaaDoor
open Go.RowKit M

set_option maxRecDepth 100000 in
set_option maxHeartbeats 12800000 in
theorem rmatch_var (w : World) (S : Option Addr) (cs : Nat) (bs : List BS) (e0 : Int → Option (List TN)) (A : Option Addr) (ca : Nat) (num : Int) (B : Option Addr) (cb m : Nat) (us : List TN)
    (hu : us.length ≤ 512) (hbl : bs.length + 1 ≤ 2048) (hcs : bs.length ≤ cs) (hm : m = us.length) (hf : Full 1 us) (hR : Rep (bs.map mb) e0) (hS : InB w S bs) (hA : InC w A ([((1, num, 0) : TN)].flatMap ndCells)) (hB : InC w B (us.flatMap ndCells)) :
    Calls Tryd.prog 38 #[.slice S bs.length cs, .slice A 1 ca, .slice B m cb] w (RmPost [(1, num, 0)] us bs.length e0 w) := by
  have HR := Lib.hid hR
  have HS := hide hS
  have HBB := hide hB
  have HM := Lib.hid hm
  have hm5 : m ≤ 512 := by omega
  have HT : Hid (mtch [(1, num, 0)] us e0 = (match e0 num with | some y => decide (y = us) | none => true)) := Lib.hid (mtch_one hf)
  have HFU := Lib.hid hf
  have HF : Hid (finE [(1, num, 0)] us e0 = setE e0 num us) := Lib.hid (finE_one hf)
  have HBL : Hid (∀ k, k < bs.length → ∃ b, bs[k]? = some b) := Lib.hid fun k hk => ⟨bs[k], List.getElem?_eq_getElem hk⟩
  obtain ⟨i0, hi0, hiz0, hiz1, hiz2⟩ := info_parts bind_info2
  obtain ⟨i1, hi1, hjz0, hjz1, hjz2⟩ := info_parts node_info
  obtain ⟨ba, oa, rfl, hba, hca0⟩ := hA.elem nd_len (k := 0) (t := (1, num, 0)) rfl (by decide)
  have x0 := hca0 0 _ rfl
  have x1 := hca0 1 _ rfl
  simp only [Nat.zero_mul, Nat.add_zero] at x0 x1
  clear hR hS hA hB hf hca0 hm hu
  go_enter Tryd.func38, Tryd.ntmps38
  go_wp2_with fail
  go_loopw [8] (fun iv wr => ∃ i : Nat, iv = .int .i64 i ∧ i ≤ bs.length ∧ Hid (∀ b ∈ bs.take i, b.1 ≠ num) ∧ Hid (∃ m, wr = w.drewN m)) (fun iv _ => bs.length - (intOf iv).toNat)
  case atStart => exact ⟨0, rfl, by omega, fun b hb => by simp at hb, 0, rfl⟩
  case round =>
    obtain ⟨i, rfl, hi, hno, hW⟩ := hrel
    obtain ⟨q0, rfl⟩ := hW
    by_cases hil : i < bs.length
    · obtain ⟨b, hb⟩ := HBL.out i hil
      obtain ⟨ks, off, rfl, hks, y0, y1⟩ := (unhide HS).at_ hb
      have hmem := List.mem_of_getElem? hb
      have hrm : e0 b.1 = some b.2.2.2 := rep_mem HR.out (List.mem_map_of_mem (f := mb) hmem)
      have HBI := hide ((unhide HS).2 b hmem).1
      have hb5 : b.2.2.2.length ≤ 9223372036854775807 := by have := ((unhide HS).2 b hmem).2.1; unfold maxLen at this; omega
      have HBM := Lib.hid hb
      have HRM := Lib.hid hrm
      clear hb hmem hrm
      obtain ⟨bv, bA, bc, bt_⟩ := b
      simp only at y0 y1 hb5
      have HNO := Lib.hid hno.out
      clear hno
      by_cases hv : bv = num
      · subst hv
        have g1 : (bv == bv) = true := beq_self_eq_true _
        go_wp2_with fail
        go_quiet (fail)
        go_wp2_with fail
        refine (requal_any bt_ us bt_.length m rfl HM.out hb5 bA B bc cb _ ((unhide HBI).drewN _) ((unhide HBB).drewN _)).mono ?_
        rintro e w9 ⟨rfl, q9, rfl⟩
        have HE : Hid (mtch [(1, bv, 0)] us e0 = decide (bt_ = us)) := Lib.hid (by rw [HT.out, HRM.out])
        cases hdec : decide (bt_ = us)
        · go_wp2_with fail
          go_ret2
          exact ⟨_, cs, bs, by rw [HE.out, hdec]; rfl, below_drewN (Below.refl _ _) _, fun q => by rw [HE.out, hdec] at q; cases q⟩
        · have HQ : Hid (Rep (bs.map mb) (finE [(1, bv, 0)] us e0)) := Lib.hid (by
            rw [HF.out]
            refine rep_same HR.out ?_
            rw [HRM.out, of_decide_eq_true hdec])
          go_wp2_with fail
          go_ret2
          exact ⟨_, cs, bs, by rw [HE.out, hdec]; rfl, below_drewN (Below.refl _ _) _, fun _ => ⟨⟨(unhide HS).1.drewN _, (unhide HS).2⟩, HQ.out, by simp, hcs⟩⟩
      · have g1 : (bv == num) = false := beq_eq_false_iff_ne.2 hv
        have HNO2 := Lib.hid (take_step HNO.out HBM.out hv)
        clear hv
        go_wp2_with fail
        go_quiet (fail)
        go_wp2_with fail
        go_roundw
        case rel => exact ⟨i + 1, by go_num, by omega, HNO2.out, _, rfl⟩
        case measure => simp [intOf]; omega
    · have HN0 : Hid (e0 num = none) := Lib.hid (rep_none HR.out fun b hb => by
        have := hno.out
        rw [List.take_of_length_le (by omega)] at this
        exact this b hb)
      clear hno
      go_wp2_with fail
      go_loopw [9] (fun kv wr => ∃ k : Nat, kv = .int .i64 k ∧ k ≤ bs.length ∧ Hid (∀ b ∈ bs.take k, b.1 < num) ∧ Hid (∃ m, wr = w.drewN m)) (fun kv _ => bs.length - (intOf kv).toNat)
      case atStart => exact ⟨0, rfl, by omega, fun b hb => by simp at hb, q0, rfl⟩
      case round =>
        obtain ⟨k, rfl, hk, hlt, hW⟩ := hrel
        obtain ⟨q1, rfl⟩ := hW
        by_cases hkl : k < bs.length
        · obtain ⟨b, hb⟩ := HBL.out k hkl
          obtain ⟨ks, off, rfl, hks, y0, y1⟩ := (unhide HS).at_ hb
          have HBM := Lib.hid hb
          clear hb y1
          obtain ⟨bv, bA, bc, bt_⟩ := b
          simp only at y0
          by_cases hv : bv < num
          · have g1 : decide (bv < num) = true := decide_eq_true hv
            have HLT2 := Lib.hid (take_step hlt.out HBM.out hv)
            clear hv hlt
            go_wp2_with fail
            go_quiet (fail)
            go_wp2_with fail
            go_roundw
            case rel => exact ⟨k + 1, by go_num, by omega, HLT2.out, _, rfl⟩
            case measure => simp [intOf]; omega
          · have g1 : decide (bv < num) = false := decide_eq_false hv
            have HGE : Hid (∀ b, bs[k]? = some b → num ≤ b.1) := Lib.hid fun x hx => by
              rw [HBM.out] at hx
              cases hx
              show num ≤ bv
              omega
            clear hv
            go_wp2_with fail
            go_quiet (fail)
            go_wp2_with (at_builtin; refine wpList_app _ rfl _ _ 38 rfl w.heap.size 43 i0 _ 2 32 Tryd.underlying38 hi0 hiz0 hiz1 hiz2 rfl (by decide) _ 0 [] rfl (World.ownsRow_nil _ _ _ _) (some ⟨ks, off, none⟩) k cs ((bs.take k).flatMap bdCells) rfl (by rw [bd_flat_len, List.length_take, Nat.min_eq_left hk]) ((bs_take (unhide HS) k).drewN _) (bd_one2 _) (by unfold maxLen; omega) (by omega) (by simp) ?_; intro v1 w1 hown1 hgrow1 _)
            rw [Nat.zero_add, List.nil_append] at hown1
            have HB1 := hide (below_app (below_drewN (Below.refl w.heap.size w) (q1 + nq)) (World.ownsRow_nil _ w.heap.size 43 2) hgrow1)
            obtain ⟨A1, c1, rfl⟩ := owns_form hown1
            have HO1 := hide hown1
            clear hown1 hgrow1
            go_wp2_with fail
            have fd0 : Hid (w1.drew.cell? ⟨ba, oa + 1, none⟩ = some (.int .i64 num)) := ((unhide HB1).cell (p := ⟨ba, oa + 1, none⟩) hba).trans x1
            have HBd : Hid (Below w.heap.size w w1.drew) := below_drew (unhide HB1)
            have HOd : Hid (w1.drew.ownsRow w.heap.size 43 2 (.slice A1 k c1) k ((bs.take k).flatMap bdCells)) := (unhide HO1).drew
            clear HB1 HO1
            refine wp_region_noPanic ?_
            refine wp_region_held_drew (S := fun W => W.cell? ⟨ba, oa + 1, none⟩ = some (.int .i64 num)) (by kernel_rfl) fd0 (fun _ => ?_)
            generalize w1.drew = wd at *
            try simp only [Act.put, List.setIfInBounds_toArray, List.set_cons_zero, List.set_cons_succ]
            refine wpAnyH_take (i := 0) (oi := { dst := some 66, op := Op.move (Operand.tmp 10), type := 38, pos := "types.go:322", after := #[], guard := none }) (v := ?_) rfl (by kernel_rfl) (by kernel_rfl) (by kernel_rfl) (fun _ _ _ h => h) (Or.inl ⟨by rfl, ?_⟩) fd0 ?_
            rotate_left 1
            · intro w hSw
              try dsimp only at hSw
              go_simp
              first
                | done
                | with_reducible rfl
                | rw [if_neg (by omega)]
            try simp only [Act.put, List.setIfInBounds_toArray, List.set_cons_zero, List.set_cons_succ]
            refine wpAnyH_take (i := 1) (oi := { dst := some 67, op := Op.move (Operand.tmp 1), type := 22, pos := "types.go:322", after := #[], guard := none }) (v := ?_) rfl (by kernel_rfl) (by kernel_rfl) (by kernel_rfl) (fun _ _ _ h => h) (Or.inl ⟨by rfl, ?_⟩) fd0 ?_
            rotate_left 1
            · intro w hSw
              try dsimp only at hSw
              go_simp
              first
                | done
                | with_reducible rfl
                | rw [if_neg (by omega)]
            try simp only [Act.put, List.setIfInBounds_toArray, List.set_cons_zero, List.set_cons_succ]
            refine wpAnyH_take (i := 2) (oi := { dst := some 68, op := Op.indexAddr 22 (Operand.tmp 67) (Operand.const (Value.int IntKind.i64 0)), type := 0, pos := "types.go:322", after := #[{ on := 1, ground := Ground.data }], guard := none }) (v := ?_) rfl (by kernel_rfl) (by kernel_rfl) (by kernel_rfl) (fun _ _ _ h => h) (Or.inl ⟨by rfl, ?_⟩) fd0 ?_
            rotate_left 1
            · intro w hSw
              try dsimp only at hSw
              go_simp
              first
                | done
                | with_reducible rfl
                | rw [if_neg (by omega)]
            try simp only [Act.put, List.setIfInBounds_toArray, List.set_cons_zero, List.set_cons_succ]
            refine wpAnyH_take (i := 3) (oi := { dst := some 69, op := Op.fieldAddr 33 (Operand.tmp 68) 1, type := 0, pos := "types.go:322", after := #[{ on := 2, ground := Ground.data }], guard := none }) (v := ?_) rfl (by kernel_rfl) (by kernel_rfl) (by kernel_rfl) (fun _ _ _ h => h) (Or.inl ⟨by rfl, ?_⟩) fd0 ?_
            rotate_left 1
            · intro w hSw
              try dsimp only at hSw
              go_simp
              first
                | done
                | with_reducible rfl
                | rw [if_neg (by omega)]
            try simp only [Act.put, List.setIfInBounds_toArray, List.set_cons_zero, List.set_cons_succ]
            refine wpAnyH_take (i := 4) (oi := { dst := some 70, op := Op.load 3 (Operand.tmp 69), type := 3, pos := "types.go:322", after := #[{ on := 3, ground := Ground.data }], guard := none }) (v := ?_) rfl (by kernel_rfl) (by kernel_rfl) (by kernel_rfl) (fun _ _ _ h => h) (Or.inl ⟨by rfl, ?_⟩) fd0 ?_
            rotate_left 1
            · intro w hSw
              try dsimp only at hSw
              go_simp
              first
                | done
                | with_reducible rfl
                | rw [if_neg (by omega)]
            try simp only [Act.put, List.setIfInBounds_toArray, List.set_cons_zero, List.set_cons_succ]
            refine wpAnyH_take (i := 5) (oi := { dst := some 71, op := Op.move (Operand.tmp 2), type := 22, pos := "types.go:322", after := #[], guard := none }) (v := ?_) rfl (by kernel_rfl) (by kernel_rfl) (by kernel_rfl) (fun _ _ _ h => h) (Or.inl ⟨by rfl, ?_⟩) fd0 ?_
            rotate_left 1
            · intro w hSw
              try dsimp only at hSw
              go_simp
              first
                | done
                | with_reducible rfl
                | rw [if_neg (by omega)]
            try simp only [Act.put, List.setIfInBounds_toArray, List.set_cons_zero, List.set_cons_succ]
            refine wpAnyH_take (i := 10) (oi := { dst := some 76, op := Op.move (Operand.tmp 0), type := 38, pos := "types.go:322", after := #[], guard := none }) (v := ?_) rfl (by kernel_rfl) (by kernel_rfl) (by kernel_rfl) (fun _ _ _ h => h) (Or.inl ⟨by rfl, ?_⟩) fd0 ?_
            rotate_left 1
            · intro w hSw
              try dsimp only at hSw
              go_simp
              first
                | done
                | with_reducible rfl
                | rw [if_neg (by omega)]
            try simp only [Act.put, List.setIfInBounds_toArray, List.set_cons_zero, List.set_cons_succ]
            refine wpAnyH_take (i := 11) (oi := { dst := some 77, op := Op.move (Operand.tmp 9), type := 3, pos := "types.go:322", after := #[], guard := none }) (v := ?_) rfl (by kernel_rfl) (by kernel_rfl) (by kernel_rfl) (fun _ _ _ h => h) (Or.inl ⟨by rfl, ?_⟩) fd0 ?_
            rotate_left 1
            · intro w hSw
              try dsimp only at hSw
              go_simp
              first
                | done
                | with_reducible rfl
                | rw [if_neg (by omega)]
            try simp only [Act.put, List.setIfInBounds_toArray, List.set_cons_zero, List.set_cons_succ]
            refine wpAnyH_take (i := 12) (oi := { dst := some 78, op := Op.slice 38 (Operand.tmp 76) (some (Operand.tmp 77)) none none, type := 38, pos := "types.go:322", after := #[{ on := 10, ground := Ground.data }, { on := 11, ground := Ground.data }], guard := none }) (v := .slice (some ⟨ks, off + k * 2, none⟩) (bs.length - k) (cs - k)) rfl (by kernel_rfl) (by kernel_rfl) (by kernel_rfl) (fun _ _ _ h => h) (Or.inl ⟨by rfl, ?_⟩) fd0 ?_
            · intro w hSw
              go_simp
              intro hc; omega
            try simp only [Act.put, List.setIfInBounds_toArray, List.set_cons_zero, List.set_cons_succ]
            refine wpAnyH_ready (rs := [6]) (by kernel_rfl) (by simp) ?_
            refine AllReadyH.cons (o := { dst := some 72, op := Op.call { callee := Callee.builtin Builtin.append, args := #[Operand.const (Value.slice none 0 0), Operand.tmp 71], argTypes := #[22, 22] }, type := 22, pos := "types.go:322", after := #[{ on := 5, ground := Ground.data }], guard := none }) rfl (fun K hK => ?_) AllReadyH.nil
            refine step_app rfl _ _ 22 rfl w.heap.size 33 i1 _ 3 24 Tryd.underlying22 hi1 hjz0 hjz1 hjz2 rfl (by decide) (.slice none 0 0) 0 [] rfl (World.ownsRow_nil _ _ _ _) B m cb (us.flatMap ndCells) rfl (by rw [flat_len nd_len us, HM.out]) ((unhide HBB).below (unhide HBd)) (nd_one us) (by unfold maxLen; omega) (by omega) (unhide HBd).size ?_
            intro v2 w2 hown2 hgrow2 _
            rw [Nat.zero_add, List.nil_append] at hown2
            obtain ⟨A2, c2, rfl⟩ := owns_form hown2
            have HB2 := hide (below_app (unhide HBd) (World.ownsRow_nil _ w.heap.size 33 3) hgrow2)
            have HO2 := hide (owns_other (unhide HOd) hgrow2 (fun k _ e => by simp [Value.ownBlock] at e))
            have HT2 := hide hown2
            have e2 := ((unhide HB2).cell (p := ⟨ba, oa + 1, none⟩) hba).trans x1
            clear hown2 hgrow2 HOd HBd
            refine hK.out _ _ e2 (fun _ => ?_)
            clear hK K
            try simp only [Act.put, List.setIfInBounds_toArray, List.set_cons_zero, List.set_cons_succ]
            refine wpAnyH_take (i := 7) (oi := { dst := some 73, op := Op.build 43 #[(0, Operand.tmp 70), (1, Operand.tmp 72)], type := 43, pos := "types.go:322", after := #[{ on := 4, ground := Ground.data }, { on := 6, ground := Ground.data }], guard := none }) (v := ?_) rfl (by kernel_rfl) (by kernel_rfl) (by kernel_rfl) (fun _ _ _ h => h) (Or.inl ⟨by rfl, ?_⟩) e2 ?_
            rotate_left 1
            · intro w hSw
              try dsimp only at hSw
              go_simp
              first
                | done
                | with_reducible rfl
                | rw [if_neg (by omega)]
            try simp only [Act.put, List.setIfInBounds_toArray, List.set_cons_zero, List.set_cons_succ]
            refine wpAnyH_ready (rs := [8]) (by kernel_rfl) (by simp) ?_
            refine AllReadyH.cons (o := { dst := some 74, op := Op.buildSlice 38 1 #[(0, Operand.tmp 73)], type := 38, pos := "types.go:322", after := #[{ on := 7, ground := Ground.data }], guard := none }) rfl (fun K hK => ?_) AllReadyH.nil
            go_simp
            try dsimp only
            have HB3 := hide ((unhide HB2).alloc (unhide HB2).size (.cells #[.int .i64 num, .slice A2 m c2] 43))
            have HO3 := hide ((unhide HO2).alloc (.cells #[.int .i64 num, .slice A2 m c2] 43))
            have HT3 := hide ((unhide HT2).alloc (.cells #[.int .i64 num, .slice A2 m c2] 43))
            have HN3 := hide (new_in w2 43 #[.int .i64 num, .slice A2 m c2])
            have e3 := ((unhide HB3).cell (p := ⟨ba, oa + 1, none⟩) hba).trans x1
            generalize hw3 : w2.alloc (.cells #[.int .i64 num, .slice A2 m c2] 43) = w3 at *
            generalize hnb : w2.heap.size = nb at *
            clear hw3 hnb HB2 HO2 HT2
            refine hK.out _ _ e3 (fun _ => ?_)
            clear hK K
            try simp only [Act.put, List.setIfInBounds_toArray, List.set_cons_zero, List.set_cons_succ]
            refine wpAnyH_ready (rs := [9]) (by kernel_rfl) (by simp) ?_
            refine AllReadyH.cons (o := { dst := some 75, op := Op.call { callee := Callee.builtin Builtin.append, args := #[Operand.tmp 66, Operand.tmp 74], argTypes := #[38, 38] }, type := 38, pos := "types.go:322", after := #[{ on := 0, ground := Ground.data }, { on := 8, ground := Ground.data }, { on := 6, ground := Ground.chain }], guard := none }) rfl (fun K hK => ?_) AllReadyH.nil
            refine step_app rfl _ _ 38 rfl w.heap.size 43 i0 _ 2 32 Tryd.underlying38 hi0 hiz0 hiz1 hiz2 rfl (by decide) (.slice A1 k c1) k ((bs.take k).flatMap bdCells) rfl (unhide HO3) (some ⟨nb, 0, none⟩) 1 1 [.int .i64 num, .slice A2 m c2] rfl rfl (unhide HN3) (by intro x hx; simp at hx; rcases hx with rfl | rfl <;> rfl) (by unfold maxLen; omega) (by omega) (unhide HB3).size ?_
            intro v4 w4 hown4 hgrow4 _
            obtain ⟨A4, c4, rfl⟩ := owns_form hown4
            have HB4 := hide (below_app (unhide HB3) (unhide HO3) hgrow4)
            have HT4 := hide (owns_other (unhide HT3) hgrow4 (fun k hk e => own_own_ne (unhide HT3) (unhide HO3) (by decide) k hk e))
            have HO4 := hide hown4
            have e4 := ((unhide HB4).cell (p := ⟨ba, oa + 1, none⟩) hba).trans x1
            clear hown4 hgrow4 HB3 HT3 HO3 HN3
            refine hK.out _ _ e4 (fun _ => ?_)
            clear hK K
            try simp only [Act.put, List.setIfInBounds_toArray, List.set_cons_zero, List.set_cons_succ]
            refine wpAnyH_ready (rs := [13]) (by kernel_rfl) (by simp) ?_
            refine AllReadyH.cons (o := { dst := some 79, op := Op.call { callee := Callee.builtin Builtin.append, args := #[Operand.tmp 75, Operand.tmp 78], argTypes := #[38, 38] }, type := 38, pos := "types.go:322", after := #[{ on := 9, ground := Ground.data }, { on := 12, ground := Ground.data }, { on := 9, ground := Ground.chain }], guard := none }) rfl (fun K hK => ?_) AllReadyH.nil
            refine step_app rfl _ _ 38 rfl w.heap.size 43 i0 _ 2 32 Tryd.underlying38 hi0 hiz0 hiz1 hiz2 rfl (by decide) (.slice A4 (k + 1) c4) (k + 1) ((bs.take k).flatMap bdCells ++ [.int .i64 num, .slice A2 m c2]) rfl (unhide HO4) (some ⟨ks, off + k * 2, none⟩) (bs.length - k) (cs - k) ((bs.drop k).flatMap bdCells) rfl (by rw [bd_flat_len, List.length_drop]) (by have q := bs_cut (k := k) ((unhide HS).below (unhide HB4)) hcs; rw [if_neg (by omega), Option.map_some, add_at] at q; exact q) (bd_one2 _) (by unfold maxLen; omega) (by omega) (unhide HB4).size ?_
            intro v5 w5 hown5 hgrow5 _
            obtain ⟨A5, c5, rfl⟩ := owns_form hown5
            have HB5 := hide (below_app (unhide HB4) (unhide HO4) hgrow5)
            have HT5 := hide (owns_other (unhide HT4) hgrow5 (fun k hk e => own_own_ne (unhide HT4) (unhide HO4) (by decide) k hk e))
            have HO5 := hide hown5
            have e5 := ((unhide HB5).cell (p := ⟨ba, oa + 1, none⟩) hba).trans x1
            clear hown5 hgrow5 HB4 HT4 HO4
            refine hK.out _ _ e5 (fun _ => ?_)
            clear hK K
            try simp only [Act.put, List.setIfInBounds_toArray, List.set_cons_zero, List.set_cons_succ]
            refine wpAnyH_take (i := 14) (oi := { dst := some 6, op := Op.assign (Operand.tmp 79), type := 38, pos := "types.go:322", after := #[{ on := 13, ground := Ground.data }, { on := 13, ground := Ground.chain }, { on := 0, ground := Ground.phase }, { on := 1, ground := Ground.phase }, { on := 2, ground := Ground.phase }, { on := 3, ground := Ground.phase }, { on := 4, ground := Ground.phase }, { on := 5, ground := Ground.phase }, { on := 6, ground := Ground.phase }, { on := 7, ground := Ground.phase }, { on := 8, ground := Ground.phase }, { on := 9, ground := Ground.phase }, { on := 10, ground := Ground.phase }, { on := 11, ground := Ground.phase }, { on := 12, ground := Ground.phase }, { on := 13, ground := Ground.phase }], guard := none }) (v := ?_) rfl (by kernel_rfl) (by kernel_rfl) (by kernel_rfl) (fun _ _ _ h => h) (Or.inl ⟨by rfl, ?_⟩) e5 ?_
            rotate_left 1
            · intro w hSw
              try dsimp only at hSw
              go_simp
              first
                | done
                | with_reducible rfl
                | rw [if_neg (by omega)]
            try simp only [Act.put, List.setIfInBounds_toArray, List.set_cons_zero, List.set_cons_succ]
            refine wpAnyH_take (i := 15) (oi := { dst := some 7, op := Op.assign (Operand.const (Value.bool true)), type := 4, pos := "types.go:322", after := #[{ on := 14, ground := Ground.chain }, { on := 0, ground := Ground.phase }, { on := 1, ground := Ground.phase }, { on := 2, ground := Ground.phase }, { on := 3, ground := Ground.phase }, { on := 4, ground := Ground.phase }, { on := 5, ground := Ground.phase }, { on := 6, ground := Ground.phase }, { on := 7, ground := Ground.phase }, { on := 8, ground := Ground.phase }, { on := 9, ground := Ground.phase }, { on := 10, ground := Ground.phase }, { on := 11, ground := Ground.phase }, { on := 12, ground := Ground.phase }, { on := 13, ground := Ground.phase }, { on := 14, ground := Ground.phase }], guard := none }) (v := ?_) rfl (by kernel_rfl) (by kernel_rfl) (by kernel_rfl) (fun _ _ _ h => h) (Or.inl ⟨by rfl, ?_⟩) e5 ?_
            rotate_left 1
            · intro w hSw
              try dsimp only at hSw
              go_simp
              first
                | done
                | with_reducible rfl
                | rw [if_neg (by omega)]
            try simp only [Act.put, List.setIfInBounds_toArray, List.set_cons_zero, List.set_cons_succ]
            refine wpAnyH_done (by kernel_rfl) ?_ _
            refine NoPanic.normal ?_
            go_wp2_with fail
            all_goals
              go_ret2
              have ho5 := unhide HO5
              have ht5 := unhide HT5
              rw [HM.out] at ho5 ht5
              exact splice_post hk HR.out HN0.out hlt.out HGE.out (unhide HS) (unhide HB5) ht5 ho5 (by have := HM.out; omega) HFU.out
        · have HGE : Hid (∀ b, bs[k]? = some b → num ≤ b.1) := Lib.hid fun x hx => by
            have := (List.getElem?_eq_some_iff.1 hx).1
            omega
          go_wp2_with fail
          go_quiet (fail)
          go_wp2_with (at_builtin; refine wpList_app _ rfl _ _ 38 rfl w.heap.size 43 i0 _ 2 32 Tryd.underlying38 hi0 hiz0 hiz1 hiz2 rfl (by decide) _ 0 [] rfl (World.ownsRow_nil _ _ _ _) S k cs ((bs.take k).flatMap bdCells) rfl (by rw [bd_flat_len, List.length_take, Nat.min_eq_left hk]) ((bs_take (unhide HS) k).drewN _) (bd_one2 _) (by unfold maxLen; omega) (by omega) (by simp) ?_; intro v1 w1 hown1 hgrow1 _)
          rw [Nat.zero_add, List.nil_append] at hown1
          have HB1 := hide (below_app (below_drewN (Below.refl w.heap.size w) (q1 + nq)) (World.ownsRow_nil _ w.heap.size 43 2) hgrow1)
          obtain ⟨A1, c1, rfl⟩ := owns_form hown1
          have HO1 := hide hown1
          clear hown1 hgrow1
          go_wp2_with fail
          have fd0 : Hid (w1.drew.cell? ⟨ba, oa + 1, none⟩ = some (.int .i64 num)) := ((unhide HB1).cell (p := ⟨ba, oa + 1, none⟩) hba).trans x1
          have HBd : Hid (Below w.heap.size w w1.drew) := below_drew (unhide HB1)
          have HOd : Hid (w1.drew.ownsRow w.heap.size 43 2 (.slice A1 k c1) k ((bs.take k).flatMap bdCells)) := (unhide HO1).drew
          clear HB1 HO1
          refine wp_region_noPanic ?_
          refine wp_region_held_drew (S := fun W => W.cell? ⟨ba, oa + 1, none⟩ = some (.int .i64 num)) (by kernel_rfl) fd0 (fun _ => ?_)
          generalize w1.drew = wd at *
          try simp only [Act.put, List.setIfInBounds_toArray, List.set_cons_zero, List.set_cons_succ]
          refine wpAnyH_take (i := 0) (oi := { dst := some 66, op := Op.move (Operand.tmp 10), type := 38, pos := "types.go:322", after := #[], guard := none }) (v := ?_) rfl (by kernel_rfl) (by kernel_rfl) (by kernel_rfl) (fun _ _ _ h => h) (Or.inl ⟨by rfl, ?_⟩) fd0 ?_
          rotate_left 1
          · intro w hSw
            try dsimp only at hSw
            go_simp
            first
              | done
              | with_reducible rfl
              | rw [if_neg (by omega)]
          try simp only [Act.put, List.setIfInBounds_toArray, List.set_cons_zero, List.set_cons_succ]
          refine wpAnyH_take (i := 1) (oi := { dst := some 67, op := Op.move (Operand.tmp 1), type := 22, pos := "types.go:322", after := #[], guard := none }) (v := ?_) rfl (by kernel_rfl) (by kernel_rfl) (by kernel_rfl) (fun _ _ _ h => h) (Or.inl ⟨by rfl, ?_⟩) fd0 ?_
          rotate_left 1
          · intro w hSw
            try dsimp only at hSw
            go_simp
            first
              | done
              | with_reducible rfl
              | rw [if_neg (by omega)]
          try simp only [Act.put, List.setIfInBounds_toArray, List.set_cons_zero, List.set_cons_succ]
          refine wpAnyH_take (i := 2) (oi := { dst := some 68, op := Op.indexAddr 22 (Operand.tmp 67) (Operand.const (Value.int IntKind.i64 0)), type := 0, pos := "types.go:322", after := #[{ on := 1, ground := Ground.data }], guard := none }) (v := ?_) rfl (by kernel_rfl) (by kernel_rfl) (by kernel_rfl) (fun _ _ _ h => h) (Or.inl ⟨by rfl, ?_⟩) fd0 ?_
          rotate_left 1
          · intro w hSw
            try dsimp only at hSw
            go_simp
            first
              | done
              | with_reducible rfl
              | rw [if_neg (by omega)]
          try simp only [Act.put, List.setIfInBounds_toArray, List.set_cons_zero, List.set_cons_succ]
          refine wpAnyH_take (i := 3) (oi := { dst := some 69, op := Op.fieldAddr 33 (Operand.tmp 68) 1, type := 0, pos := "types.go:322", after := #[{ on := 2, ground := Ground.data }], guard := none }) (v := ?_) rfl (by kernel_rfl) (by kernel_rfl) (by kernel_rfl) (fun _ _ _ h => h) (Or.inl ⟨by rfl, ?_⟩) fd0 ?_
          rotate_left 1
          · intro w hSw
            try dsimp only at hSw
            go_simp
            first
              | done
              | with_reducible rfl
              | rw [if_neg (by omega)]
          try simp only [Act.put, List.setIfInBounds_toArray, List.set_cons_zero, List.set_cons_succ]
          refine wpAnyH_take (i := 4) (oi := { dst := some 70, op := Op.load 3 (Operand.tmp 69), type := 3, pos := "types.go:322", after := #[{ on := 3, ground := Ground.data }], guard := none }) (v := ?_) rfl (by kernel_rfl) (by kernel_rfl) (by kernel_rfl) (fun _ _ _ h => h) (Or.inl ⟨by rfl, ?_⟩) fd0 ?_
          rotate_left 1
          · intro w hSw
            try dsimp only at hSw
            go_simp
            first
              | done
              | with_reducible rfl
              | rw [if_neg (by omega)]
          try simp only [Act.put, List.setIfInBounds_toArray, List.set_cons_zero, List.set_cons_succ]
          refine wpAnyH_take (i := 5) (oi := { dst := some 71, op := Op.move (Operand.tmp 2), type := 22, pos := "types.go:322", after := #[], guard := none }) (v := ?_) rfl (by kernel_rfl) (by kernel_rfl) (by kernel_rfl) (fun _ _ _ h => h) (Or.inl ⟨by rfl, ?_⟩) fd0 ?_
          rotate_left 1
          · intro w hSw
            try dsimp only at hSw
            go_simp
            first
              | done
              | with_reducible rfl
              | rw [if_neg (by omega)]
          try simp only [Act.put, List.setIfInBounds_toArray, List.set_cons_zero, List.set_cons_succ]
          refine wpAnyH_take (i := 10) (oi := { dst := some 76, op := Op.move (Operand.tmp 0), type := 38, pos := "types.go:322", after := #[], guard := none }) (v := ?_) rfl (by kernel_rfl) (by kernel_rfl) (by kernel_rfl) (fun _ _ _ h => h) (Or.inl ⟨by rfl, ?_⟩) fd0 ?_
          rotate_left 1
          · intro w hSw
            try dsimp only at hSw
            go_simp
            first
              | done
              | with_reducible rfl
              | rw [if_neg (by omega)]
          try simp only [Act.put, List.setIfInBounds_toArray, List.set_cons_zero, List.set_cons_succ]
          refine wpAnyH_take (i := 11) (oi := { dst := some 77, op := Op.move (Operand.tmp 9), type := 3, pos := "types.go:322", after := #[], guard := none }) (v := ?_) rfl (by kernel_rfl) (by kernel_rfl) (by kernel_rfl) (fun _ _ _ h => h) (Or.inl ⟨by rfl, ?_⟩) fd0 ?_
          rotate_left 1
          · intro w hSw
            try dsimp only at hSw
            go_simp
            first
              | done
              | with_reducible rfl
              | rw [if_neg (by omega)]
          try simp only [Act.put, List.setIfInBounds_toArray, List.set_cons_zero, List.set_cons_succ]
          refine wpAnyH_take (i := 12) (oi := { dst := some 78, op := Op.slice 38 (Operand.tmp 76) (some (Operand.tmp 77)) none none, type := 38, pos := "types.go:322", after := #[{ on := 10, ground := Ground.data }, { on := 11, ground := Ground.data }], guard := none }) (v := .slice (if cs = k then S else S.map (·.add (k * 2))) (bs.length - k) (cs - k)) rfl (by kernel_rfl) (by kernel_rfl) (by kernel_rfl) (fun _ _ _ h => h) (Or.inl ⟨by rfl, ?_⟩) fd0 ?_
          · intro w hSw
            go_simp
          try simp only [Act.put, List.setIfInBounds_toArray, List.set_cons_zero, List.set_cons_succ]
          refine wpAnyH_ready (rs := [6]) (by kernel_rfl) (by simp) ?_
          refine AllReadyH.cons (o := { dst := some 72, op := Op.call { callee := Callee.builtin Builtin.append, args := #[Operand.const (Value.slice none 0 0), Operand.tmp 71], argTypes := #[22, 22] }, type := 22, pos := "types.go:322", after := #[{ on := 5, ground := Ground.data }], guard := none }) rfl (fun K hK => ?_) AllReadyH.nil
          refine step_app rfl _ _ 22 rfl w.heap.size 33 i1 _ 3 24 Tryd.underlying22 hi1 hjz0 hjz1 hjz2 rfl (by decide) (.slice none 0 0) 0 [] rfl (World.ownsRow_nil _ _ _ _) B m cb (us.flatMap ndCells) rfl (by rw [flat_len nd_len us, HM.out]) ((unhide HBB).below (unhide HBd)) (nd_one us) (by unfold maxLen; omega) (by omega) (unhide HBd).size ?_
          intro v2 w2 hown2 hgrow2 _
          rw [Nat.zero_add, List.nil_append] at hown2
          obtain ⟨A2, c2, rfl⟩ := owns_form hown2
          have HB2 := hide (below_app (unhide HBd) (World.ownsRow_nil _ w.heap.size 33 3) hgrow2)
          have HO2 := hide (owns_other (unhide HOd) hgrow2 (fun k _ e => by simp [Value.ownBlock] at e))
          have HT2 := hide hown2
          have e2 := ((unhide HB2).cell (p := ⟨ba, oa + 1, none⟩) hba).trans x1
          clear hown2 hgrow2 HOd HBd
          refine hK.out _ _ e2 (fun _ => ?_)
          clear hK K
          try simp only [Act.put, List.setIfInBounds_toArray, List.set_cons_zero, List.set_cons_succ]
          refine wpAnyH_take (i := 7) (oi := { dst := some 73, op := Op.build 43 #[(0, Operand.tmp 70), (1, Operand.tmp 72)], type := 43, pos := "types.go:322", after := #[{ on := 4, ground := Ground.data }, { on := 6, ground := Ground.data }], guard := none }) (v := ?_) rfl (by kernel_rfl) (by kernel_rfl) (by kernel_rfl) (fun _ _ _ h => h) (Or.inl ⟨by rfl, ?_⟩) e2 ?_
          rotate_left 1
          · intro w hSw
            try dsimp only at hSw
            go_simp
            first
              | done
              | with_reducible rfl
              | rw [if_neg (by omega)]
          try simp only [Act.put, List.setIfInBounds_toArray, List.set_cons_zero, List.set_cons_succ]
          refine wpAnyH_ready (rs := [8]) (by kernel_rfl) (by simp) ?_
          refine AllReadyH.cons (o := { dst := some 74, op := Op.buildSlice 38 1 #[(0, Operand.tmp 73)], type := 38, pos := "types.go:322", after := #[{ on := 7, ground := Ground.data }], guard := none }) rfl (fun K hK => ?_) AllReadyH.nil
          go_simp
          try dsimp only
          have HB3 := hide ((unhide HB2).alloc (unhide HB2).size (.cells #[.int .i64 num, .slice A2 m c2] 43))
          have HO3 := hide ((unhide HO2).alloc (.cells #[.int .i64 num, .slice A2 m c2] 43))
          have HT3 := hide ((unhide HT2).alloc (.cells #[.int .i64 num, .slice A2 m c2] 43))
          have HN3 := hide (new_in w2 43 #[.int .i64 num, .slice A2 m c2])
          have e3 := ((unhide HB3).cell (p := ⟨ba, oa + 1, none⟩) hba).trans x1
          generalize hw3 : w2.alloc (.cells #[.int .i64 num, .slice A2 m c2] 43) = w3 at *
          generalize hnb : w2.heap.size = nb at *
          clear hw3 hnb HB2 HO2 HT2
          refine hK.out _ _ e3 (fun _ => ?_)
          clear hK K
          try simp only [Act.put, List.setIfInBounds_toArray, List.set_cons_zero, List.set_cons_succ]
          refine wpAnyH_ready (rs := [9]) (by kernel_rfl) (by simp) ?_
          refine AllReadyH.cons (o := { dst := some 75, op := Op.call { callee := Callee.builtin Builtin.append, args := #[Operand.tmp 66, Operand.tmp 74], argTypes := #[38, 38] }, type := 38, pos := "types.go:322", after := #[{ on := 0, ground := Ground.data }, { on := 8, ground := Ground.data }, { on := 6, ground := Ground.chain }], guard := none }) rfl (fun K hK => ?_) AllReadyH.nil
          refine step_app rfl _ _ 38 rfl w.heap.size 43 i0 _ 2 32 Tryd.underlying38 hi0 hiz0 hiz1 hiz2 rfl (by decide) (.slice A1 k c1) k ((bs.take k).flatMap bdCells) rfl (unhide HO3) (some ⟨nb, 0, none⟩) 1 1 [.int .i64 num, .slice A2 m c2] rfl rfl (unhide HN3) (by intro x hx; simp at hx; rcases hx with rfl | rfl <;> rfl) (by unfold maxLen; omega) (by omega) (unhide HB3).size ?_
          intro v4 w4 hown4 hgrow4 _
          obtain ⟨A4, c4, rfl⟩ := owns_form hown4
          have HB4 := hide (below_app (unhide HB3) (unhide HO3) hgrow4)
          have HT4 := hide (owns_other (unhide HT3) hgrow4 (fun k hk e => own_own_ne (unhide HT3) (unhide HO3) (by decide) k hk e))
          have HO4 := hide hown4
          have e4 := ((unhide HB4).cell (p := ⟨ba, oa + 1, none⟩) hba).trans x1
          clear hown4 hgrow4 HB3 HT3 HO3 HN3
          refine hK.out _ _ e4 (fun _ => ?_)
          clear hK K
          try simp only [Act.put, List.setIfInBounds_toArray, List.set_cons_zero, List.set_cons_succ]
          refine wpAnyH_ready (rs := [13]) (by kernel_rfl) (by simp) ?_
          refine AllReadyH.cons (o := { dst := some 79, op := Op.call { callee := Callee.builtin Builtin.append, args := #[Operand.tmp 75, Operand.tmp 78], argTypes := #[38, 38] }, type := 38, pos := "types.go:322", after := #[{ on := 9, ground := Ground.data }, { on := 12, ground := Ground.data }, { on := 9, ground := Ground.chain }], guard := none }) rfl (fun K hK => ?_) AllReadyH.nil
          refine step_app rfl _ _ 38 rfl w.heap.size 43 i0 _ 2 32 Tryd.underlying38 hi0 hiz0 hiz1 hiz2 rfl (by decide) (.slice A4 (k + 1) c4) (k + 1) ((bs.take k).flatMap bdCells ++ [.int .i64 num, .slice A2 m c2]) rfl (unhide HO4) (if cs = k then S else S.map (·.add (k * 2))) (bs.length - k) (cs - k) ((bs.drop k).flatMap bdCells) rfl (by rw [bd_flat_len, List.length_drop]) (bs_cut ((unhide HS).below (unhide HB4)) hcs) (bd_one2 _) (by unfold maxLen; omega) (by omega) (unhide HB4).size ?_
          intro v5 w5 hown5 hgrow5 _
          obtain ⟨A5, c5, rfl⟩ := owns_form hown5
          have HB5 := hide (below_app (unhide HB4) (unhide HO4) hgrow5)
          have HT5 := hide (owns_other (unhide HT4) hgrow5 (fun k hk e => own_own_ne (unhide HT4) (unhide HO4) (by decide) k hk e))
          have HO5 := hide hown5
          have e5 := ((unhide HB5).cell (p := ⟨ba, oa + 1, none⟩) hba).trans x1
          clear hown5 hgrow5 HB4 HT4 HO4
          refine hK.out _ _ e5 (fun _ => ?_)
          clear hK K
          try simp only [Act.put, List.setIfInBounds_toArray, List.set_cons_zero, List.set_cons_succ]
          refine wpAnyH_take (i := 14) (oi := { dst := some 6, op := Op.assign (Operand.tmp 79), type := 38, pos := "types.go:322", after := #[{ on := 13, ground := Ground.data }, { on := 13, ground := Ground.chain }, { on := 0, ground := Ground.phase }, { on := 1, ground := Ground.phase }, { on := 2, ground := Ground.phase }, { on := 3, ground := Ground.phase }, { on := 4, ground := Ground.phase }, { on := 5, ground := Ground.phase }, { on := 6, ground := Ground.phase }, { on := 7, ground := Ground.phase }, { on := 8, ground := Ground.phase }, { on := 9, ground := Ground.phase }, { on := 10, ground := Ground.phase }, { on := 11, ground := Ground.phase }, { on := 12, ground := Ground.phase }, { on := 13, ground := Ground.phase }], guard := none }) (v := ?_) rfl (by kernel_rfl) (by kernel_rfl) (by kernel_rfl) (fun _ _ _ h => h) (Or.inl ⟨by rfl, ?_⟩) e5 ?_
          rotate_left 1
          · intro w hSw
            try dsimp only at hSw
            go_simp
            first
              | done
              | with_reducible rfl
              | rw [if_neg (by omega)]
          try simp only [Act.put, List.setIfInBounds_toArray, List.set_cons_zero, List.set_cons_succ]
          refine wpAnyH_take (i := 15) (oi := { dst := some 7, op := Op.assign (Operand.const (Value.bool true)), type := 4, pos := "types.go:322", after := #[{ on := 14, ground := Ground.chain }, { on := 0, ground := Ground.phase }, { on := 1, ground := Ground.phase }, { on := 2, ground := Ground.phase }, { on := 3, ground := Ground.phase }, { on := 4, ground := Ground.phase }, { on := 5, ground := Ground.phase }, { on := 6, ground := Ground.phase }, { on := 7, ground := Ground.phase }, { on := 8, ground := Ground.phase }, { on := 9, ground := Ground.phase }, { on := 10, ground := Ground.phase }, { on := 11, ground := Ground.phase }, { on := 12, ground := Ground.phase }, { on := 13, ground := Ground.phase }, { on := 14, ground := Ground.phase }], guard := none }) (v := ?_) rfl (by kernel_rfl) (by kernel_rfl) (by kernel_rfl) (fun _ _ _ h => h) (Or.inl ⟨by rfl, ?_⟩) e5 ?_
          rotate_left 1
          · intro w hSw
            try dsimp only at hSw
            go_simp
            first
              | done
              | with_reducible rfl
              | rw [if_neg (by omega)]
          try simp only [Act.put, List.setIfInBounds_toArray, List.set_cons_zero, List.set_cons_succ]
          refine wpAnyH_done (by kernel_rfl) ?_ _
          refine NoPanic.normal ?_
          go_wp2_with fail
          all_goals
            go_ret2
            have ho5 := unhide HO5
            have ht5 := unhide HT5
            rw [HM.out] at ho5 ht5
            exact splice_post hk HR.out HN0.out hlt.out HGE.out (unhide HS) (unhide HB5) ht5 ho5 (by have := HM.out; omega) HFU.out
end Go.Proofs.YtcnanbmbdajcaaaDoor
