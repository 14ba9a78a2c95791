/- The reference's Need: a variable put into a list of rows. Condition: at most 1048576 rows, the classes are a sum of the three bits. -/
-- by tools/gen_need.py
import Derived.Test.YtgdmmkgdnfkadaaDoorTyS0
import Derived.Test.YtgdmmkgdnfkadaaDoorApp
import Derived.Deep.RegionHeld3
namespace Go.Proofs.YtgdmmkgdnfkadaaDoor
open Go.RowKit M

theorem need_info : (Tryd.prog.info? 59).map (fun i => (i.zero, i.size, i.bytes)) = some (some (.agg #[.int .i64 0, .int .i64 0]), 2, 16) := by kernel_rfl
theorem bits_or_self (c : Int) (h0 : 0 ≤ c) (h7 : c ≤ 7) : bits .or .i64 c c = c := by
  have hc : c = 0 ∨ c = 1 ∨ c = 2 ∨ c = 3 ∨ c = 4 ∨ c = 5 ∨ c = 6 ∨ c = 7 := by omega
  rcases hc with rfl | rfl | rfl | rfl | rfl | rfl | rfl | rfl <;> rfl
/-- a call that returns a list of rows in a row of its own -/
def NeedPost (c : Int) (l : List Int) (w : World) (e : Ending) (w' : World) : Prop :=
  ∃ v, e = .returned v ∧ w'.ownsRow w.heap.size 59 2 v l.length (l.flatMap (nq c)) ∧ Below w.heap.size w w'

set_option maxRecDepth 100000 in
set_option maxHeartbeats 6400000 in
theorem need_any (w : World) (A : Option Addr) (n cp : Nat) (l : List Int) (v c : Int) (hn : n = l.length) (hl : n ≤ 1048576) (h0 : 0 ≤ c) (h7 : c ≤ 7) (hA : InC w A (l.flatMap (nq c))) :
    Calls Tryd.prog 67 #[.slice A n cp, .int .i64 v, .int .i64 c] w (NeedPost c (insV l v) w) := by
  have HA := hide hA
  have HN := Lib.hid hn
  have HBO := Lib.hid (bits_or_self c h0 h7)
  have hlen := flat_len (f := nq c) (z := 2) (nq_len c) l
  have HPL := Lib.hid (pos_le l v)
  obtain ⟨i0, hi0, hiz0, hiz1, hiz2⟩ := info_parts need_info
  clear hA hn
  go_enter Tryd.func67, Tryd.ntmps67
  go_wp2_with (at_builtin; refine wpList_app _ rfl _ _ 54 rfl w.heap.size 59 i0 _ 2 16 Tryd.underlying54 hi0 hiz0 hiz1 hiz2 rfl (by decide) _ 0 [] rfl (World.ownsRow_nil _ _ _ _) A n cp (l.flatMap (nq c)) rfl (by rw [hlen, HN.out]) (unhide HA) (nq_one c l) (by unfold maxLen; omega) (by omega) (by simp) ?_; intro v1 w1 hown1 hgrow1 _)
  rw [Nat.zero_add, List.nil_append] at hown1
  have HB1 := hide (below_app (Below.refl _ _) (World.ownsRow_nil w w.heap.size 59 2) hgrow1)
  clear hgrow1
  obtain ⟨A1, c1, rfl⟩ := owns_form hown1
  have HO1 := hide hown1
  clear hown1
  go_wp2_with fail
  go_loopw [8] (fun kv wr => ∃ k : Nat, kv = .int .i64 k ∧ k ≤ pos l v ∧ wr = w1) (fun kv _ => n - (intOf kv).toNat)
  case atStart => exact ⟨0, rfl, by omega, rfl⟩
  case round =>
    obtain ⟨k, rfl, hk, rfl⟩ := hrel
    by_cases hkp : k < pos l v
    · obtain ⟨x, hx, hxv⟩ := pos_lt l v hkp
      have hkn : k < n := by rw [HN.out]; have := HPL.out; omega
      obtain ⟨g, c', he, hbg, hg, hnc, hcell⟩ := owns_cell HO1.out (by omega)
      cases he
      have x0 := hcell _ _ (flat_at (nq_len c) l k x hx 0 _ rfl)
      rw [Nat.add_zero] at x0
      clear hcell
      go_wp2_with fail
      go_roundw
      case rel => exact ⟨k + 1, by go_num, by omega, trivial⟩
      case measure => simp [intOf]; omega
    · have HKP : Hid (k = pos l v) := Lib.hid (by omega)
      have HNX : n < k → False := by have h1 := HPL.out; have h2 := HKP.out; have h3 := HN.out; omega
      have hB0 := HB1.out.size
      by_cases hkn : k < n
      · obtain ⟨x, hx, hxv⟩ := pos_at l v (by rw [← HKP.out, ← HN.out]; exact hkn)
        rw [← HKP.out] at hx
        obtain ⟨g, c', he, hbg, hg, hnc, hcell⟩ := owns_cell HO1.out (by omega)
        cases he
        have x0 := hcell _ _ (flat_at (nq_len c) l k x hx 0 _ rfl)
        have x1 := hcell _ _ (flat_at (nq_len c) l k x hx 1 _ rfl)
        rw [Nat.add_zero] at x0
        clear hcell
        by_cases hxe : x = v
        · subst hxe
          have HIV := Lib.hid (insV_there l x (by rw [← HKP.out]; exact hx))
          have HX := Lib.hid hx
          have hbo := HBO.out
          have fz := HO1.out.frozenAt (k * 2 + 1)
          clear hx
          go_wp2_with fail
          go_ret
          refine ⟨_, rfl, ?_, (unhide HB1).setCell (by assumption) _⟩
          rw [HIV.out]
          have hst := (HO1.out.stored (k * 2 + 1) (.int .i64 c)).1
          have hse := set_same (flat_at (nq_len c) l k x HX.out 1 _ rfl)
          rw [hse] at hst
          rw [← HN.out]
          exact hst
        · have HIV := Lib.hid (insV_new l v (by rw [← HKP.out, hx]; simpa using hxe))
          have g1 : (x == v) = false := beq_eq_false_iff_ne.2 hxe
          have HX := Lib.hid hx
          clear hx
          go_wp2_with (at_builtin; refine wpList_app _ rfl _ _ 54 rfl w.heap.size 59 i0 _ 2 16 Tryd.underlying54 hi0 hiz0 hiz1 hiz2 rfl (by decide) _ n (l.flatMap (nq c)) rfl (HO1.out.alloc _) _ 1 1 [.int .i64 0, .int .i64 0] rfl rfl (new_in _ _ #[.int .i64 0, .int .i64 0]) (by intro u hu; simp at hu; subst hu; rfl) (by unfold maxLen; omega) (by omega) (by simp; omega) ?_; intro v2 w2 hown2 hgrow2 _)
          have HB2 := hide (below_app ((unhide HB1).alloc (unhide HB1).size _) (HO1.out.alloc _) hgrow2)
          clear hgrow2
          obtain ⟨g2, c2, rfl, hbg2, hg2, hnc2, _⟩ := owns_cell hown2 (by omega)
          have HR2 := hide hown2
          clear hown2
          have hwr : IntKind.i64.wrap ((k : Int) + 1) = (k : Int) + 1 := IntWalk.i64_in _ (by omega)
          have HBd : Hid (Below w.heap.size w w2.drew) := below_drew (unhide HB2)
          have HRd : Hid (w2.drew.ownsRow w.heap.size 59 2 (.slice (some ⟨g2, 0, none⟩) (n + 1) c2) (n + 1) (l.flatMap (nq c) ++ [Value.int .i64 0, Value.int .i64 0])) := (unhide HR2).drew
          refine wp_region_noPanic ?_
          refine wp_region_held_drew (S := fun W => True) (by kernel_rfl) trivial (fun _ => ?_)
          generalize w2.drew = wd at *
          try simp only [Act.put, List.setIfInBounds_toArray, List.set_cons_zero, List.set_cons_succ]
          refine wpAnyH_take (i := 0) (oi := { dst := some 53, op := Op.move (Operand.tmp 7), type := 54, pos := "types.go:408", after := #[], guard := none }) (v := ?_) rfl (by kernel_rfl) (by kernel_rfl) (by kernel_rfl) (fun _ _ _ h => h) (Or.inl ⟨by rfl, ?_⟩) trivial ?_
          rotate_left 1
          · intro w hSw
            try dsimp only at hSw
            go_simp
            first
              | done
              | with_reducible rfl
              | rw [if_neg (by omega)]
          try simp only [Act.put, List.setIfInBounds_toArray, List.set_cons_zero, List.set_cons_succ]
          refine wpAnyH_take (i := 1) (oi := { dst := some 54, op := Op.move (Operand.tmp 8), type := 3, pos := "types.go:408", after := #[], guard := none }) (v := ?_) rfl (by kernel_rfl) (by kernel_rfl) (by kernel_rfl) (fun _ _ _ h => h) (Or.inl ⟨by rfl, ?_⟩) trivial ?_
          rotate_left 1
          · intro w hSw
            try dsimp only at hSw
            go_simp
            first
              | done
              | with_reducible rfl
              | rw [if_neg (by omega)]
          try simp only [Act.put, List.setIfInBounds_toArray, List.set_cons_zero, List.set_cons_succ]
          refine wpAnyH_take (i := 2) (oi := { dst := some 55, op := Op.binOp BinOp.add 3 (Operand.tmp 54) (Operand.const (Value.int IntKind.i64 1)) 3, type := 3, pos := "types.go:408", after := #[{ on := 1, ground := Ground.data }], guard := none }) (v := (.int .i64 ((k : Int) + 1))) rfl (by kernel_rfl) (by kernel_rfl) (by kernel_rfl) (fun _ _ _ h => h) (Or.inl ⟨by rfl, ?_⟩) trivial ?_
          · intro w hSw
            go_simp
            first | done | rw [hwr]
          try simp only [Act.put, List.setIfInBounds_toArray, List.set_cons_zero, List.set_cons_succ]
          refine wpAnyH_take (i := 3) (oi := { dst := some 56, op := Op.slice 54 (Operand.tmp 53) (some (Operand.tmp 55)) none none, type := 54, pos := "types.go:408", after := #[{ on := 0, ground := Ground.data }, { on := 2, ground := Ground.data }], guard := none }) (v := .slice (some ⟨g2, (k + 1) * 2, none⟩) (n - k) (c2 - (k + 1))) rfl (by kernel_rfl) (by kernel_rfl) (by kernel_rfl) (fun _ _ _ h => h) (Or.inl ⟨by rfl, ?_⟩) trivial ?_
          · intro w hSw
            go_simp
            rw [if_pos (by omega)]
            rw [if_neg (by omega)]
          try simp only [Act.put, List.setIfInBounds_toArray, List.set_cons_zero, List.set_cons_succ]
          refine wpAnyH_take (i := 4) (oi := { dst := some 57, op := Op.move (Operand.tmp 7), type := 54, pos := "types.go:408", after := #[], guard := none }) (v := ?_) rfl (by kernel_rfl) (by kernel_rfl) (by kernel_rfl) (fun _ _ _ h => h) (Or.inl ⟨by rfl, ?_⟩) trivial ?_
          rotate_left 1
          · intro w hSw
            try dsimp only at hSw
            go_simp
            first
              | done
              | with_reducible rfl
              | rw [if_neg (by omega)]
          try simp only [Act.put, List.setIfInBounds_toArray, List.set_cons_zero, List.set_cons_succ]
          refine wpAnyH_take (i := 5) (oi := { dst := some 58, op := Op.move (Operand.tmp 8), type := 3, pos := "types.go:408", after := #[], guard := none }) (v := ?_) rfl (by kernel_rfl) (by kernel_rfl) (by kernel_rfl) (fun _ _ _ h => h) (Or.inl ⟨by rfl, ?_⟩) trivial ?_
          rotate_left 1
          · intro w hSw
            try dsimp only at hSw
            go_simp
            first
              | done
              | with_reducible rfl
              | rw [if_neg (by omega)]
          try simp only [Act.put, List.setIfInBounds_toArray, List.set_cons_zero, List.set_cons_succ]
          refine wpAnyH_take (i := 6) (oi := { dst := some 59, op := Op.slice 54 (Operand.tmp 57) (some (Operand.tmp 58)) none none, type := 54, pos := "types.go:408", after := #[{ on := 4, ground := Ground.data }, { on := 5, ground := Ground.data }], guard := none }) (v := .slice (some ⟨g2, k * 2, none⟩) (n + 1 - k) (c2 - k)) rfl (by kernel_rfl) (by kernel_rfl) (by kernel_rfl) (fun _ _ _ h => h) (Or.inl ⟨by rfl, ?_⟩) trivial ?_
          · intro w hSw
            go_simp
            rw [if_pos (by omega), if_neg (by omega)]
          try simp only [Act.put, List.setIfInBounds_toArray, List.set_cons_zero, List.set_cons_succ]
          refine wpAnyH_ready (rs := [7]) (by kernel_rfl) (by simp) ?_
          refine AllReadyH.cons (o := { dst := some 60, op := Op.call { callee := Callee.builtin Builtin.copy, args := #[Operand.tmp 56, Operand.tmp 59], argTypes := #[54, 54] }, type := 3, pos := "types.go:408", after := #[{ on := 3, ground := Ground.data }, { on := 6, ground := Ground.data }], guard := none }) rfl (fun K hK => ?_) AllReadyH.nil
          obtain ⟨cur, hcur, hcs, -, htk, -, hnew⟩ := owns_row (ys := (l.flatMap (nq c) ++ [Value.int .i64 0, Value.int .i64 0]).take ((k + 1) * 2) ++ (l.drop k).flatMap (nq c)) (unhide HRd)
          have hdl := flat_len (f := nq c) (z := 2) (nq_len c) (l.drop k)
          rw [List.length_drop, ← HN.out] at hdl
          have hxl : (l.flatMap (nq c) ++ [Value.int .i64 0, Value.int .i64 0]).length = (n + 1) * 2 := (unhide HRd).1
          refine step_copyZ rfl _ _ 54 54 rfl 59 Tryd.underlying54 2 (by kernel_rfl) g2 ((k + 1) * 2) (n - k) (c2 - (k + 1)) ⟨g2, k * 2, none⟩ (n + 1 - k) (c2 - k) ?_ ?_ cur 59 hcur (n - k) (by simp [Nat.min_def]; omega) ((l.drop k).flatMap (nq c)) hdl ?_ (by rw [hdl, hcs]; omega) (nq_one c _) ?_
          · go_simp
          · go_simp
          · intro j u hu
            rw [flat_drop (nq_len c), List.getElem?_drop] at hu
            rw [add_at]
            obtain ⟨hj, _⟩ := List.getElem?_eq_some_iff.1 hu
            rw [(unhide HRd).cellAt (k * 2 + j) (by rw [flat_len (nq_len c), ← HN.out] at hj; omega), List.getElem?_append_left hj]; exact hu
          have hrow := hnew (cur.toList.take ((k + 1) * 2) ++ (l.drop k).flatMap (nq c) ++ cur.toList.drop ((k + 1) * 2 + ((l.drop k).flatMap (nq c)).length)).toArray (by simp [hdl]; omega) (by rw [List.length_append, List.length_take, hxl, hdl]; omega) (row_spliced htk (by rw [Array.length_toList, hcs]; omega) (by rw [hdl]; omega))
          rw [row_moved c x HX.out] at hrow
          have HR3 := hide hrow
          have HB3 := hide (below_setRow (unhide HBd) hbg2 (cur.toList.take ((k + 1) * 2) ++ (l.drop k).flatMap (nq c) ++ cur.toList.drop ((k + 1) * 2 + ((l.drop k).flatMap (nq c)).length)).toArray)
          clear hrow hnew htk hcur hdl hxl
          refine hK.out _ _ trivial (fun _ => ?_)
          clear hK K
          try simp only [Act.put, List.setIfInBounds_toArray, List.set_cons_zero, List.set_cons_succ]
          refine wpAnyH_done (by kernel_rfl) ?_ _
          refine NoPanic.normal ?_
          generalize wd.setRow _ _ = w3 at *
          have fz0 := HR3.out.frozenAt (k * 2)
          have fz1 := HR3.out.frozenAt (k * 2 + 1)
          have y0 := HR3.out.cellAt (k * 2) (by omega)
          have y1 := HR3.out.cellAt (k * 2 + 1) (by omega)
          have hkl : (l.take k).length = k := by rw [List.length_take]; have := HN.out; omega
          have q0 : ((l.take k).flatMap (nq c) ++ ([(Value.int .i64 x), (Value.int .i64 c)] ++ (l.drop k).flatMap (nq c)))[k * 2]? = some (Value.int .i64 x) := by
            have := flat_len (f := nq c) (z := 2) (nq_len c) (l.take k)
            rw [List.getElem?_append_right (by omega), this, hkl, Nat.sub_self]; rfl
          have q1 : ((l.take k).flatMap (nq c) ++ ([(Value.int .i64 x), (Value.int .i64 c)] ++ (l.drop k).flatMap (nq c)))[k * 2 + 1]? = some (Value.int .i64 c) := by
            have := flat_len (f := nq c) (z := 2) (nq_len c) (l.take k)
            rw [List.getElem?_append_right (by omega), this, hkl, Nat.add_sub_cancel_left]; rfl
          rw [q0] at y0
          rw [q1] at y1
          have HSET : Hid ((((l.take k).flatMap (nq c) ++ ([(Value.int .i64 x), (Value.int .i64 c)] ++ (l.drop k).flatMap (nq c))).set (k * 2) (.int .i64 v)).set (k * 2 + 1) (.int .i64 c) = (insV l v).flatMap (nq c)) := by
            have := nq_set c v (Value.int .i64 x) (Value.int .i64 c) (l.take k) (l.drop k)
            rw [hkl] at this
            rw [HIV.out, ← HKP.out]
            exact this
          have HLN : Hid ((insV l v).length = n + 1) := by
            show _ = _
            rw [HIV.out, List.length_append, List.length_cons, List.length_drop, List.length_take]; have := HN.out; have := HKP.out; omega
          clear q0 q1 hkl
          go_wp2_with fail
          all_goals
            go_ret
            refine ⟨_, rfl, ?_, ((unhide HB3).setCell (by assumption) _).setCell (by assumption) _⟩
            have hst := ((HR3.out.stored (k * 2) (.int .i64 v)).1.stored (k * 2 + 1) (.int .i64 c)).1
            rw [HSET.out] at hst
            rw [HLN.out]
            first
              | exact hst
              | (have hce : c2 = k + 1 := (by omega); rw [hce] at hst; exact hst)
      · have hxn : l[k]? = none := List.getElem?_eq_none (by rw [← HN.out]; omega)
        have HIV := Lib.hid (insV_new l v (by rw [← HKP.out, hxn]; simp))
        clear hxn
        have HKN : Hid (k = n) := Lib.hid (Nat.le_antisymm (Nat.le_of_not_lt HNX) (Nat.le_of_not_lt hkn))
        have hkn1 := Nat.le_of_not_lt HNX
        go_wp2_with (at_builtin; refine wpList_app _ rfl _ _ 54 rfl w.heap.size 59 i0 _ 2 16 Tryd.underlying54 hi0 hiz0 hiz1 hiz2 rfl (by decide) _ n (l.flatMap (nq c)) rfl (HO1.out.alloc _) _ 1 1 [.int .i64 0, .int .i64 0] rfl rfl (new_in _ _ #[.int .i64 0, .int .i64 0]) (by intro u hu; simp at hu; subst hu; rfl) (by unfold maxLen; omega) (by omega) (by simp; omega) ?_; intro v2 w2 hown2 hgrow2 _)
        have HB2 := hide (below_app ((unhide HB1).alloc (unhide HB1).size _) (HO1.out.alloc _) hgrow2)
        clear hgrow2
        obtain ⟨g2, c2, rfl, hbg2, hg2, hnc2, _⟩ := owns_cell hown2 (by omega)
        have HR2 := hide hown2
        clear hown2
        have hwr : IntKind.i64.wrap ((k : Int) + 1) = (k : Int) + 1 := IntWalk.i64_in _ (by omega)
        have HBd : Hid (Below w.heap.size w w2.drew) := below_drew (unhide HB2)
        have HRd : Hid (w2.drew.ownsRow w.heap.size 59 2 (.slice (some ⟨g2, 0, none⟩) (n + 1) c2) (n + 1) (l.flatMap (nq c) ++ [Value.int .i64 0, Value.int .i64 0])) := (unhide HR2).drew
        refine wp_region_noPanic ?_
        refine wp_region_held_drew (S := fun W => True) (by kernel_rfl) trivial (fun _ => ?_)
        generalize w2.drew = wd at *
        try simp only [Act.put, List.setIfInBounds_toArray, List.set_cons_zero, List.set_cons_succ]
        refine wpAnyH_take (i := 0) (oi := { dst := some 53, op := Op.move (Operand.tmp 7), type := 54, pos := "types.go:408", after := #[], guard := none }) (v := ?_) rfl (by kernel_rfl) (by kernel_rfl) (by kernel_rfl) (fun _ _ _ h => h) (Or.inl ⟨by rfl, ?_⟩) trivial ?_
        rotate_left 1
        · intro w hSw
          try dsimp only at hSw
          go_simp
          first
            | done
            | with_reducible rfl
            | rw [if_neg (by omega)]
        try simp only [Act.put, List.setIfInBounds_toArray, List.set_cons_zero, List.set_cons_succ]
        refine wpAnyH_take (i := 1) (oi := { dst := some 54, op := Op.move (Operand.tmp 8), type := 3, pos := "types.go:408", after := #[], guard := none }) (v := ?_) rfl (by kernel_rfl) (by kernel_rfl) (by kernel_rfl) (fun _ _ _ h => h) (Or.inl ⟨by rfl, ?_⟩) trivial ?_
        rotate_left 1
        · intro w hSw
          try dsimp only at hSw
          go_simp
          first
            | done
            | with_reducible rfl
            | rw [if_neg (by omega)]
        try simp only [Act.put, List.setIfInBounds_toArray, List.set_cons_zero, List.set_cons_succ]
        refine wpAnyH_take (i := 2) (oi := { dst := some 55, op := Op.binOp BinOp.add 3 (Operand.tmp 54) (Operand.const (Value.int IntKind.i64 1)) 3, type := 3, pos := "types.go:408", after := #[{ on := 1, ground := Ground.data }], guard := none }) (v := (.int .i64 ((k : Int) + 1))) rfl (by kernel_rfl) (by kernel_rfl) (by kernel_rfl) (fun _ _ _ h => h) (Or.inl ⟨by rfl, ?_⟩) trivial ?_
        · intro w hSw
          go_simp
          first | done | rw [hwr]
        try simp only [Act.put, List.setIfInBounds_toArray, List.set_cons_zero, List.set_cons_succ]
        refine wpAnyH_take (i := 3) (oi := { dst := some 56, op := Op.slice 54 (Operand.tmp 53) (some (Operand.tmp 55)) none none, type := 54, pos := "types.go:408", after := #[{ on := 0, ground := Ground.data }, { on := 2, ground := Ground.data }], guard := none }) (v := .slice (some ⟨g2, (if c2 = k + 1 then 0 else (k + 1) * 2), none⟩) 0 (c2 - (k + 1))) rfl (by kernel_rfl) (by kernel_rfl) (by kernel_rfl) (fun _ _ _ h => h) (Or.inl ⟨by rfl, ?_⟩) trivial ?_
        · intro w hSw
          go_simp
          rw [if_pos (by omega)]
          have h0 : n - k = 0 := by omega
          rw [h0]
          by_cases hc : c2 = k + 1
          · rw [if_pos hc, if_pos hc]
          · rw [if_neg hc, if_neg hc]
        try simp only [Act.put, List.setIfInBounds_toArray, List.set_cons_zero, List.set_cons_succ]
        refine wpAnyH_take (i := 4) (oi := { dst := some 57, op := Op.move (Operand.tmp 7), type := 54, pos := "types.go:408", after := #[], guard := none }) (v := ?_) rfl (by kernel_rfl) (by kernel_rfl) (by kernel_rfl) (fun _ _ _ h => h) (Or.inl ⟨by rfl, ?_⟩) trivial ?_
        rotate_left 1
        · intro w hSw
          try dsimp only at hSw
          go_simp
          first
            | done
            | with_reducible rfl
            | rw [if_neg (by omega)]
        try simp only [Act.put, List.setIfInBounds_toArray, List.set_cons_zero, List.set_cons_succ]
        refine wpAnyH_take (i := 5) (oi := { dst := some 58, op := Op.move (Operand.tmp 8), type := 3, pos := "types.go:408", after := #[], guard := none }) (v := ?_) rfl (by kernel_rfl) (by kernel_rfl) (by kernel_rfl) (fun _ _ _ h => h) (Or.inl ⟨by rfl, ?_⟩) trivial ?_
        rotate_left 1
        · intro w hSw
          try dsimp only at hSw
          go_simp
          first
            | done
            | with_reducible rfl
            | rw [if_neg (by omega)]
        try simp only [Act.put, List.setIfInBounds_toArray, List.set_cons_zero, List.set_cons_succ]
        refine wpAnyH_take (i := 6) (oi := { dst := some 59, op := Op.slice 54 (Operand.tmp 57) (some (Operand.tmp 58)) none none, type := 54, pos := "types.go:408", after := #[{ on := 4, ground := Ground.data }, { on := 5, ground := Ground.data }], guard := none }) (v := .slice (some ⟨g2, k * 2, none⟩) (n + 1 - k) (c2 - k)) rfl (by kernel_rfl) (by kernel_rfl) (by kernel_rfl) (fun _ _ _ h => h) (Or.inl ⟨by rfl, ?_⟩) trivial ?_
        · intro w hSw
          go_simp
          rw [if_pos (by omega), if_neg (by omega)]
        try simp only [Act.put, List.setIfInBounds_toArray, List.set_cons_zero, List.set_cons_succ]
        refine wpAnyH_ready (rs := [7]) (by kernel_rfl) (by simp) ?_
        refine AllReadyH.cons (o := { dst := some 60, op := Op.call { callee := Callee.builtin Builtin.copy, args := #[Operand.tmp 56, Operand.tmp 59], argTypes := #[54, 54] }, type := 3, pos := "types.go:408", after := #[{ on := 3, ground := Ground.data }, { on := 6, ground := Ground.data }], guard := none }) rfl (fun K hK => ?_) AllReadyH.nil
        refine step_copyZ_none rfl _ _ 54 54 rfl 59 Tryd.underlying54 2 (by kernel_rfl) ⟨g2, (if c2 = k + 1 then 0 else (k + 1) * 2), none⟩ 0 (c2 - (k + 1)) ⟨g2, k * 2, none⟩ (n + 1 - k) (c2 - k) (by go_simp) (by go_simp) (by simp) ?_
        have hrow := unhide HRd
        rw [row_new c (HKN.out.trans HN.out)] at hrow
        have HR3 := hide hrow
        have HB3 := hide (unhide HBd)
        clear hrow
        refine hK.out _ _ trivial (fun _ => ?_)
        clear hK K
        try simp only [Act.put, List.setIfInBounds_toArray, List.set_cons_zero, List.set_cons_succ]
        refine wpAnyH_done (by kernel_rfl) ?_ _
        refine NoPanic.normal ?_
        have fz0 := HR3.out.frozenAt (k * 2)
        have fz1 := HR3.out.frozenAt (k * 2 + 1)
        have y0 := HR3.out.cellAt (k * 2) (by omega)
        have y1 := HR3.out.cellAt (k * 2 + 1) (by omega)
        have hkl : (l.take k).length = k := by rw [List.length_take]; have := HN.out; omega
        have q0 : ((l.take k).flatMap (nq c) ++ ([(Value.int .i64 0), (Value.int .i64 0)] ++ (l.drop k).flatMap (nq c)))[k * 2]? = some (Value.int .i64 0) := by
          have := flat_len (f := nq c) (z := 2) (nq_len c) (l.take k)
          rw [List.getElem?_append_right (by omega), this, hkl, Nat.sub_self]; rfl
        have q1 : ((l.take k).flatMap (nq c) ++ ([(Value.int .i64 0), (Value.int .i64 0)] ++ (l.drop k).flatMap (nq c)))[k * 2 + 1]? = some (Value.int .i64 0) := by
          have := flat_len (f := nq c) (z := 2) (nq_len c) (l.take k)
          rw [List.getElem?_append_right (by omega), this, hkl, Nat.add_sub_cancel_left]; rfl
        rw [q0] at y0
        rw [q1] at y1
        have HSET : Hid ((((l.take k).flatMap (nq c) ++ ([(Value.int .i64 0), (Value.int .i64 0)] ++ (l.drop k).flatMap (nq c))).set (k * 2) (.int .i64 v)).set (k * 2 + 1) (.int .i64 c) = (insV l v).flatMap (nq c)) := by
          have := nq_set c v (Value.int .i64 0) (Value.int .i64 0) (l.take k) (l.drop k)
          rw [hkl] at this
          rw [HIV.out, ← HKP.out]
          exact this
        have HLN : Hid ((insV l v).length = n + 1) := by
          show _ = _
          rw [HIV.out, List.length_append, List.length_cons, List.length_drop, List.length_take]; have := HN.out; have := HKP.out; omega
        clear q0 q1 hkl
        go_wp2_with fail
        all_goals
          go_ret
          refine ⟨_, rfl, ?_, ((unhide HB3).setCell (by assumption) _).setCell (by assumption) _⟩
          have hst := ((HR3.out.stored (k * 2) (.int .i64 v)).1.stored (k * 2 + 1) (.int .i64 c)).1
          rw [HSET.out] at hst
          rw [HLN.out]
          first
            | exact hst
            | (have hce : c2 = k + 1 := (by omega); rw [hce] at hst; exact hst)

end Go.Proofs.YtgdmmkgdnfkadaaDoor
