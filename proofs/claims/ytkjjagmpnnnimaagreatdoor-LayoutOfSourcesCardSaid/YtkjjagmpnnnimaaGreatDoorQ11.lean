/- The writer of sources: bind up to its last region. Conditions: at most 1000 names. The writer of sources: a visible variable of a type. Conditions: at most 1000 names. -/
import Derived.Test.YtkjjagmpnnnimaaGreatDoorQ10
namespace Go.Proofs.YtkjjagmpnnnimaaGreatDoor
open Go.RowKit M

/-- the state but for its two rows -/
structure GRest (w : World) (Pr : Nat → Prop) (X : GC) (fr : Nat) (vn vt : Value) (ch : Nat) : Prop where
  blk : Blk w X.wb 47 (gCells X vn vt fr)
  cho : Cho w X.g X.A X.n X.c ch
  chn : ch ≤ X.n
  ints : ∃ B, B ≤ X.g ∧ IntsAt w B X.A X.n ∧ ∀ b, b < B → Pr b
  nw : ¬ Pr X.wb
  ng : ¬ Pr X.g
  lt : ∀ j, Pr j → j < w.heap.size
section
variable {w w' : World} {Pr Pr' : Nat → Prop} {X : GC} {k fr ch : Nat} {vn vt : Value} {xs ts : List Value}
theorem GAt.rest (h : GAt w Pr X k fr vn vt xs ts ch) : GRest w Pr X fr vn vt ch := ⟨h.blk, h.cho, h.chn, h.ints, h.nw, h.ng, h.lt⟩
theorem GRest.gw (h : GRest w Pr X fr vn vt ch) : X.g ≠ X.wb := Blk.ne_ h.cho h.blk (by decide)
theorem GRest.ikeep (h : GRest w Pr X fr vn vt ch) (hk : Keep Pr w w') : ∃ B, B ≤ X.g ∧ IntsAt w' B X.A X.n ∧ ∀ b, b < B → Pr b := by
  obtain ⟨B, h1, h2, h3⟩ := h.ints
  exact ⟨B, h1, h2.keep hk h3, h3⟩
theorem GRest.drew (h : GRest w Pr X fr vn vt ch) : GRest w.drew Pr X fr vn vt ch := ⟨h.blk, h.cho, h.chn, h.ikeep ((Keep.refl _ _).drewN 1), h.nw, h.ng, h.lt⟩
theorem GRest.alloc (h : GRest w Pr X fr vn vt ch) (o : Obj) : GRest (w.alloc o) Pr X fr vn vt ch :=
  ⟨h.blk.alloc o, Blk.alloc h.cho o, h.chn, h.ikeep ((Keep.refl _ _).alloc h.lt o), h.nw, h.ng, fun j hj => Nat.lt_of_lt_of_le (h.lt j hj) (by simp)⟩
theorem GRest.grown (h : GRest w Pr X fr vn vt ch) {row : Option Nat} (hG : w.grownBy w' row) (h1 : row ≠ some X.wb) (h2 : row ≠ some X.g) (h3 : ∀ j, row = some j → ¬ Pr j) : GRest w' Pr X fr vn vt ch ∧ Keep Pr w w' := by
  have hK : Keep Pr w w' := (Keep.refl Pr w).grown hG h.lt h3
  exact ⟨⟨h.blk.grown hG (Ne.symm h1), Blk.grown h.cho hG (Ne.symm h2), h.chn, h.ikeep hK, h.nw, h.ng, fun j hj => Nat.lt_of_lt_of_le (h.lt j hj) hG.size⟩, hK⟩
theorem GRest.c1 (h : GRest w Pr X fr vn vt ch) : w.cell? ⟨X.wb, 1, none⟩ = some vn := h.blk.cell 1
theorem GRest.c2 (h : GRest w Pr X fr vn vt ch) : w.cell? ⟨X.wb, 2, none⟩ = some vt := h.blk.cell 2
theorem GRest.fin (h : GRest w Pr X fr vn vt ch) {k' : Nat} {vn' vt' : Value} {xs' ts' : List Value} (rn' : w.ownsRow 0 9 1 vn' k' xs') (rt' : w.ownsRow 0 3 1 vt' k' ts')
    (sn' : ∀ x ∈ xs', ∃ s : ByteArray, x = .string s ∧ s.size ≤ 3) (st' : ∀ x ∈ ts', ∃ z : Int, x = .int .i64 z) (kf' : k' ≤ fr) (nn' : ∀ j, vn'.ownBlock = some j → ¬ Pr j) (nt' : ∀ j, vt'.ownBlock = some j → ¬ Pr j) :
    GSt ((w.setCell ⟨X.wb, 1, none⟩ vn').setCell ⟨X.wb, 2, none⟩ vt') Pr X k' fr ∧ Keep Pr w ((w.setCell ⟨X.wb, 1, none⟩ vn').setCell ⟨X.wb, 2, none⟩ vt') := by
  have hK : Keep Pr w ((w.setCell ⟨X.wb, 1, none⟩ vn').setCell ⟨X.wb, 2, none⟩ vt') := ((Keep.refl Pr w).setCell (p := ⟨X.wb, 1, none⟩) h.nw _).setCell (p := ⟨X.wb, 2, none⟩) h.nw _
  have e1 : vn'.ownBlock ≠ some X.wb := own_blk_ne rn' h.blk (by decide)
  have e2 : vt'.ownBlock ≠ some X.wb := own_blk_ne rt' h.blk (by decide)
  refine ⟨⟨_, _, _, _, _, ⟨(h.blk.set_ 1 vn').set_ 2 vt', (Blk.far h.cho (p := ⟨X.wb, 1, none⟩) h.gw vn').far (p := ⟨X.wb, 2, none⟩) h.gw vt', h.chn, h.ikeep hK, owns_set (owns_set rn' e1 _) e1 _, owns_set (owns_set rt' e2 _) e2 _, sn', st', kf', h.nw, h.ng, nn', nt', ?_⟩⟩, hK⟩
  intro j hj
  have := h.lt j hj
  simpa [World.setCell] using this
end
theorem string_info : (Tryz.prog.info? 9).map (fun i => (i.zero, i.size, i.bytes)) = some (some (.string ⟨#[]⟩), 1, 16) := by kernel_rfl
/-- a slice that is new, or in the row's own block, is in no block of Pr -/
theorem new_nopr {Pr : Nat → Prop} {v : Value} {gg H n cap : Nat} (hv : ∀ j, v.ownBlock = some j → ¬ Pr j) (hl : ∀ j, Pr j → j < H) (hat : v.ownBlock = some gg ∨ gg = H) :
    ∀ j, (Value.slice (some ⟨gg, 0, none⟩) n cap).ownBlock = some j → ¬ Pr j := by
  intro j hj hp
  have : gg = j := by simpa [Value.ownBlock] using hj
  subst this
  rcases hat with q | q
  · exact hv _ q hp
  · have := hl _ hp; omega
theorem ownsRow_drew {w : World} {b : Nat} {e : TypeId} {z : Nat} {v : Value} {n : Nat} {xs : List Value} (h : w.ownsRow b e z v n xs) : w.drew.ownsRow b e z v n xs := h
theorem heap_old {w : World} {b : Nat} {o : Obj} (h : w.heap[b]? = some o) (o2 : Obj) : (w.alloc o2).heap[b]? = some o := (Below.heap_alloc w o2 b (lt_of_some h)).trans h
theorem snoc_all {p : Value → Prop} {xs : List Value} {x : Value} (h : ∀ y ∈ xs, p y) (hx : p x) : ∀ y ∈ xs ++ [x], p y := by
  intro y hy
  rcases List.mem_append.1 hy with q | q
  · exact h y q
  · rw [List.mem_singleton.1 q]; exact hx

set_option maxRecDepth 100000 in
set_option maxHeartbeats 3200000 in
theorem gbind (t : Int) {w : World} {Pr : Nat → Prop} {X : GC} {k fr : Nat} (h : GSt w Pr X k fr) (hf : fr ≤ 1000) :
    Calls Tryz.prog 16 #[.pointer (some ⟨X.wb, 0, none⟩), .int .i64 t] w fun e w' => ∃ s : ByteArray, e = .returned (.string s) ∧ s.size ≤ 3 ∧ GSt w' Pr X (k + 1) (fr + 1) ∧ Keep Pr w w' := by
  have h0lt := h.lt
  obtain ⟨vn, vt, xs, ts, ch, h⟩ := h
  have f4 : w.frozen? ⟨X.wb, 4, none⟩ = false := h.blk.frozen 4
  have k4 : w.cell? ⟨X.wb, 4, none⟩ = some (.int .i64 fr) := h.blk.cell 4
  have hE := h.set4 (z := (fr : Int) + 1) (by omega)
  have HA := Lib.hid hE.1
  have HK := Lib.hid hE.2
  have hkf := h.kf
  have j4 : (w.setCell ⟨X.wb, 4, none⟩ (.int .i64 ((fr : Int) + 1))).cell? ⟨X.wb, 4, none⟩ = some (.int .i64 ((fr : Int) + 1)) := hE.1.blk.cell 4
  clear hE h
  have hw1 : IntKind.i64.wrap ((fr : Int) + 1) = (fr : Int) + 1 := IntWalk.i64_in _ (by omega)
  obtain ⟨q, hq, hql⟩ : ∃ q : Nat, IntKind.i64.wrap (((fr : Int) + 1).tdiv 10) = (q : Int) ∧ q ≤ 1000 := ⟨(fr + 1) / 10, by rw [Int.tdiv_eq_ediv_of_nonneg (by omega), IntWalk.i64_in _ (by omega)]; omega, by omega⟩
  go_enter Tryz.func16, Tryz.ntmps16
  go_wp2_with fail
  generalize w.setCell ⟨X.wb, 4, none⟩ (.int .i64 ((fr : Int) + 1)) = w1 at *
  have HD1 : ∀ W : World, Calls Tryz.prog 13 #[.int .i64 q] W fun e w' => e = .returned (.string (digS q)) ∧ w' = W := fun W => gdig _ q rfl (by omega) W
  have HD2 : ∀ W : World, Calls Tryz.prog 13 #[.int .i64 ((fr : Int) + 1)] W fun e w' => e = .returned (.string (digS (fr + 1))) ∧ w' = W := fun W => gdig _ (fr + 1) (by omega) (by omega) W
  have d1 := digS_size q
  have d2 := digS_size (fr + 1)
  have HD1 := Lib.hid HD1
  have HD2 := Lib.hid HD2
  go_quiet (first | (go_at_call 13; exact Calls.quiet_of_same (HD1.out _)) | (go_at_call 13; exact Calls.quiet_of_same (HD2.out _)))
  have hs : (({ data := #[118] } : ByteArray) ++ digS q ++ digS (fr + 1)).size ≤ 3 := by simp [ByteArray.size_append, size_lit]; omega
  generalize (({ data := #[118] } : ByteArray) ++ digS q ++ digS (fr + 1)) = s at *
  obtain ⟨A1, c1, rfl⟩ := owns_form HA.out.rn
  obtain ⟨A2, c2, rfl⟩ := owns_form HA.out.rt
  obtain ⟨i0, hi0, hz0, hz1, hz2⟩ := info_parts string_info
  obtain ⟨i1, hi1, hy0, hy1, hy2⟩ := info_parts int_info
  have HG := Lib.hid (HA.out.drewN nq).rest
  have HN := Lib.hid (HA.out.drewN nq).rn
  have HT := Lib.hid (HA.out.drewN nq).rt
  have HSN := Lib.hid HA.out.sn
  have HST := Lib.hid HA.out.st
  have HNN := Lib.hid HA.out.nn
  have HNT := Lib.hid HA.out.nt
  have en1 := HA.out.nwb
  have en2 := HA.out.ngb
  have et1 := HA.out.twb
  have et2 := HA.out.tgb
  have ent := HA.out.ntb
  have HK2 := Lib.hid (HK.out.drewN nq)
  have HGL : Hid (∀ j, Pr j → j < w.heap.size) := h0lt
  clear HA HK j4 k4 f4 HD1 HD2 d1 d2 hq hql hw1
  generalize w1.drewN nq = w2 at *
  -- THE LAST REGION
  go_wp2_with fail
  refine wp_region_noPanic ?_
  refine wp_region_D (fun j => [5, 7, 8, 12, 14, 15].contains j) (fun W => W.cell? ⟨X.wb, 1, none⟩ = some (.slice A1 k c1) ∧ W.cell? ⟨X.wb, 2, none⟩ = some (.slice A2 k c2)) (by kernel_rfl) ?_
  try simp only [Act.put, List.setIfInBounds_toArray, List.set_cons_zero, List.set_cons_succ]
  refine wpAnyD_pure (i := 0) (oi := { dst := some 26, op := Op.move (Operand.tmp 0), type := 45, pos := "source.go:43", after := #[], guard := none }) (v := (.pointer (some ⟨X.wb, 0, none⟩))) rfl (by kernel_rfl) (by kernel_rfl) (by kernel_rfl) rfl (fun _ _ _ h => h) (Or.inl ⟨by rfl, by (intro w; go_simp)⟩) ?_
  try simp only [Act.put, List.setIfInBounds_toArray, List.set_cons_zero, List.set_cons_succ]
  refine wpAnyD_pure (i := 1) (oi := { dst := some 27, op := Op.move (Operand.tmp 0), type := 45, pos := "source.go:43", after := #[{ on := 18, ground := Ground.gcOnly Departure.lateStores }], guard := none }) (v := (.pointer (some ⟨X.wb, 0, none⟩))) rfl (by kernel_rfl) (by kernel_rfl) (by kernel_rfl) rfl (fun _ _ _ h => h) (Or.inl ⟨by rfl, by (intro w; go_simp)⟩) ?_
  try simp only [Act.put, List.setIfInBounds_toArray, List.set_cons_zero, List.set_cons_succ]
  refine wpAnyD_pure (i := 2) (oi := { dst := some 28, op := Op.move (Operand.tmp 0), type := 45, pos := "source.go:43", after := #[], guard := none }) (v := (.pointer (some ⟨X.wb, 0, none⟩))) rfl (by kernel_rfl) (by kernel_rfl) (by kernel_rfl) rfl (fun _ _ _ h => h) (Or.inl ⟨by rfl, by (intro w; go_simp)⟩) ?_
  try simp only [Act.put, List.setIfInBounds_toArray, List.set_cons_zero, List.set_cons_succ]
  refine wpAnyD_pure (i := 3) (oi := { dst := some 29, op := Op.nilCheck (Operand.tmp 28), type := 0, pos := "source.go:43", after := #[{ on := 2, ground := Ground.data }], guard := none }) (v := (.pointer (some ⟨X.wb, 0, none⟩))) rfl (by kernel_rfl) (by kernel_rfl) (by kernel_rfl) rfl (fun _ _ _ h => h) (Or.inl ⟨by rfl, by (intro w; go_simp)⟩) ?_
  try simp only [Act.put, List.setIfInBounds_toArray, List.set_cons_zero, List.set_cons_succ]
  refine wpAnyD_pure (i := 4) (oi := { dst := some 30, op := Op.fieldAddr 47 (Operand.tmp 29) 1, type := 0, pos := "source.go:43", after := #[{ on := 3, ground := Ground.data }], guard := none }) (v := (.pointer (some ⟨X.wb, 1, none⟩))) rfl (by kernel_rfl) (by kernel_rfl) (by kernel_rfl) rfl (fun _ _ _ h => h) (Or.inl ⟨by rfl, by (intro w; go_simp)⟩) ?_
  try simp only [Act.put, List.setIfInBounds_toArray, List.set_cons_zero, List.set_cons_succ]
  refine wpAnyD_pure (i := 6) (oi := { dst := some 32, op := Op.move (Operand.tmp 5), type := 9, pos := "source.go:43", after := #[], guard := none }) (v := (.string s)) rfl (by kernel_rfl) (by kernel_rfl) (by kernel_rfl) rfl (fun _ _ _ h => h) (Or.inl ⟨by rfl, by (intro w; go_simp)⟩) ?_
  try simp only [Act.put, List.setIfInBounds_toArray, List.set_cons_zero, List.set_cons_succ]
  refine wpAnyD_pure (i := 9) (oi := { dst := some 35, op := Op.move (Operand.tmp 0), type := 45, pos := "source.go:43", after := #[], guard := none }) (v := (.pointer (some ⟨X.wb, 0, none⟩))) rfl (by kernel_rfl) (by kernel_rfl) (by kernel_rfl) rfl (fun _ _ _ h => h) (Or.inl ⟨by rfl, by (intro w; go_simp)⟩) ?_
  try simp only [Act.put, List.setIfInBounds_toArray, List.set_cons_zero, List.set_cons_succ]
  refine wpAnyD_pure (i := 10) (oi := { dst := some 36, op := Op.nilCheck (Operand.tmp 35), type := 0, pos := "source.go:43", after := #[{ on := 9, ground := Ground.data }], guard := none }) (v := (.pointer (some ⟨X.wb, 0, none⟩))) rfl (by kernel_rfl) (by kernel_rfl) (by kernel_rfl) rfl (fun _ _ _ h => h) (Or.inl ⟨by rfl, by (intro w; go_simp)⟩) ?_
  try simp only [Act.put, List.setIfInBounds_toArray, List.set_cons_zero, List.set_cons_succ]
  refine wpAnyD_pure (i := 11) (oi := { dst := some 37, op := Op.fieldAddr 47 (Operand.tmp 36) 2, type := 0, pos := "source.go:43", after := #[{ on := 10, ground := Ground.data }], guard := none }) (v := (.pointer (some ⟨X.wb, 2, none⟩))) rfl (by kernel_rfl) (by kernel_rfl) (by kernel_rfl) rfl (fun _ _ _ h => h) (Or.inl ⟨by rfl, by (intro w; go_simp)⟩) ?_
  try simp only [Act.put, List.setIfInBounds_toArray, List.set_cons_zero, List.set_cons_succ]
  refine wpAnyD_pure (i := 13) (oi := { dst := some 39, op := Op.move (Operand.tmp 1), type := 3, pos := "source.go:43", after := #[], guard := none }) (v := (.int .i64 t)) rfl (by kernel_rfl) (by kernel_rfl) (by kernel_rfl) rfl (fun _ _ _ h => h) (Or.inl ⟨by rfl, by (intro w; go_simp)⟩) ?_
  try simp only [Act.put, List.setIfInBounds_toArray, List.set_cons_zero, List.set_cons_succ]
  refine wpAnyD_load (i := 5) (oi := { dst := some 31, op := Op.load 44 (Operand.tmp 30), type := 44, pos := "source.go:43", after := #[{ on := 4, ground := Ground.data }], guard := none }) (v := (.slice A1 k c1)) rfl (by kernel_rfl) (by kernel_rfl) (by kernel_rfl) (by kernel_rfl) (fun _ _ _ h => h) ⟨HG.out.drew.c1, HG.out.drew.c2⟩ (Or.inl ⟨by rfl, by (rintro w ⟨hSa, hSb⟩; (try dsimp only at hSa hSb); go_simp)⟩) ?_
  try simp only [Act.put, List.setIfInBounds_toArray, List.set_cons_zero, List.set_cons_succ]
  refine wpAnyD_load (i := 12) (oi := { dst := some 38, op := Op.load 22 (Operand.tmp 37), type := 22, pos := "source.go:43", after := #[{ on := 11, ground := Ground.data }], guard := none }) (v := (.slice A2 k c2)) rfl (by kernel_rfl) (by kernel_rfl) (by kernel_rfl) (by kernel_rfl) (fun _ _ _ h => h) ⟨HG.out.drew.c1, HG.out.drew.c2⟩ (Or.inl ⟨by rfl, by (rintro w ⟨hSa, hSb⟩; (try dsimp only at hSa hSb); go_simp)⟩) ?_
  try simp only [Act.put, List.setIfInBounds_toArray, List.set_cons_zero, List.set_cons_succ]
  refine wpAnyD_ready (rs := [7, 14]) (by kernel_rfl) (by simp) ?_
  refine AllReadyD.cons (o := { dst := some 33, op := Op.buildSlice 44 1 #[(0, Operand.tmp 32)], type := 44, pos := "source.go:43", after := #[{ on := 6, ground := Ground.data }], guard := none }) rfl (fun K hK => ?_) (AllReadyD.cons (o := { dst := some 40, op := Op.buildSlice 22 1 #[(0, Operand.tmp 39)], type := 22, pos := "source.go:43", after := #[{ on := 13, ground := Ground.data }], guard := none }) rfl (fun K hK => ?_) AllReadyD.nil)
  · go_simp
    try dsimp only
    refine hK.out _ _ (fun _ => ⟨(HG.out.drew.alloc _).c1, (HG.out.drew.alloc _).c2⟩) ?_
    clear hK K
    try simp only [Act.put, List.setIfInBounds_toArray, List.set_cons_zero, List.set_cons_succ]
    refine wpAnyD_ready (rs := [8, 14]) (by kernel_rfl) (by simp) ?_
    refine AllReadyD.cons (o := { dst := some 34, op := Op.call { callee := Callee.builtin Builtin.append, args := #[Operand.tmp 31, Operand.tmp 33], argTypes := #[44, 44] }, type := 44, pos := "source.go:43", after := #[{ on := 5, ground := Ground.data }, { on := 7, ground := Ground.data }], guard := none }) rfl (fun K hK => ?_) (AllReadyD.cons (o := { dst := some 40, op := Op.buildSlice 22 1 #[(0, Operand.tmp 39)], type := 22, pos := "source.go:43", after := #[{ on := 13, ground := Ground.data }], guard := none }) rfl (fun K hK => ?_) AllReadyD.nil)
    · refine step_append_lies _ (by rfl) _ _ _ (by rfl) 0 9 i0 _ 1 16 Tryz.underlying44 hi0 hz0 hz1 hz2 rfl (by omega) (.slice A1 k c1) k xs (by rfl) ((ownsRow_drew HN.out).alloc _) ⟨w2.heap.size, 0, none⟩ 1 1 [.string s] (by rfl) (by rfl) (World.news_of_block (cs := #[.string s]) (t := 9) (fr := (0, 0)) (heap_alloc_new w2.drew _)) (by simp [Value.oneCell']) (by omega) (by unfold maxLen; omega) (by omega) (by simp) (w2.heap.size + 1) (by simp [World.drew]) ?_
      intro gg1 cap1 w3 hown1 hgrow1 hat1 hlt1
      have hR3 := (HG.out.drew.alloc (.cells #[.string s] 9)).grown hgrow1 en1 en2 HNN.out
      have HT3 := Lib.hid (owns_other ((ownsRow_drew HT.out).alloc (.cells #[.string s] 9)) hgrow1 (fun j hj q => ent j q hj))
      refine hK.out _ _ (fun _ => ⟨hR3.1.c1, hR3.1.c2⟩) ?_
      clear hK K
      try simp only [Act.put, List.setIfInBounds_toArray, List.set_cons_zero, List.set_cons_succ]
      refine wpAnyD_ready (rs := [14]) (by kernel_rfl) (by simp) ?_
      refine AllReadyD.cons (o := { dst := some 40, op := Op.buildSlice 22 1 #[(0, Operand.tmp 39)], type := 22, pos := "source.go:43", after := #[{ on := 13, ground := Ground.data }], guard := none }) rfl (fun K hK => ?_) AllReadyD.nil
      go_simp
      try dsimp only
      refine hK.out _ _ (fun _ => ⟨(hR3.1.alloc _).c1, (hR3.1.alloc _).c2⟩) ?_
      clear hK K
      try simp only [Act.put, List.setIfInBounds_toArray, List.set_cons_zero, List.set_cons_succ]
      refine wpAnyD_ready (rs := [15]) (by kernel_rfl) (by simp) ?_
      refine AllReadyD.cons (o := { dst := some 41, op := Op.call { callee := Callee.builtin Builtin.append, args := #[Operand.tmp 38, Operand.tmp 40], argTypes := #[22, 22] }, type := 22, pos := "source.go:43", after := #[{ on := 12, ground := Ground.data }, { on := 14, ground := Ground.data }, { on := 8, ground := Ground.chain }], guard := none }) rfl (fun K hK => ?_) AllReadyD.nil
      refine step_append_lies _ (by rfl) _ _ _ (by rfl) 0 3 i1 _ 1 8 Tryz.underlying22 hi1 hy0 hy1 hy2 rfl (by omega) (.slice A2 k c2) k ts (by rfl) (HT3.out.alloc _) ⟨w3.heap.size, 0, none⟩ 1 1 [.int .i64 t] (by rfl) (by rfl) (World.news_of_block (cs := #[.int .i64 t]) (t := 3) (fr := (0, 0)) (heap_alloc_new w3 _)) (by simp [Value.oneCell']) (by omega) (by unfold maxLen; omega) (by omega) (by simp) (w3.heap.size + 1) (by simp) ?_
      intro gg2 cap2 w4 hown2 hgrow2 hat2 hlt2
      have hR4 := (hR3.1.alloc (.cells #[.int .i64 t] 3)).grown hgrow2 et1 et2 HNT.out
      have HN4 := Lib.hid (owns_other (hown1.alloc (.cells #[.int .i64 t] 3)) hgrow2 (fun j hj q => own_own_ne (hown1.alloc (.cells #[.int .i64 t] 3)) (HT3.out.alloc _) (by decide) j hj q))
      have HT4 := Lib.hid hown2
      have HG4 := Lib.hid hR4.1
      have hK4 : Keep Pr w w4 := ((((HK2.out.drew).alloc HGL.out (.cells #[.string s] 9)).trans hR3.2).alloc HGL.out (.cells #[.int .i64 t] 3)).trans hR4.2
      have hH1 : ∀ j, Pr j → j < w2.heap.size + 1 := fun j hj => by have := HG.out.lt j hj; omega
      have hH2 : ∀ j, Pr j → j < w3.heap.size + 1 := fun j hj => by have := hR3.1.lt j hj; omega
      refine hK.out _ _ (fun _ => ⟨hR4.1.c1, hR4.1.c2⟩) ?_
      clear hK K
      try simp only [Act.put, List.setIfInBounds_toArray, List.set_cons_zero, List.set_cons_succ]
      clear hR3 hR4 hown1 hown2 hgrow1 hgrow2 HT3 hlt1 hlt2
      have z1 : w4.cell? ⟨X.wb, 1, none⟩ = some (.slice A1 k c1) := HG4.out.c1
      have z2 : w4.cell? ⟨X.wb, 2, none⟩ = some (.slice A2 k c2) := HG4.out.c2
      have y1 : w4.frozen? ⟨X.wb, 1, none⟩ = false := HG4.out.blk.frozen 1
      have y2 : w4.frozen? ⟨X.wb, 2, none⟩ = false := HG4.out.blk.frozen 2
      refine wpAnyD_ready (rs := [16]) (by kernel_rfl) (by simp) ?_
      refine AllReadyD.cons (o := { dst := some 42, op := Op.nilCheck (Operand.tmp 26), type := 0, pos := "source.go:43", after := #[{ on := 0, ground := Ground.data }, { on := 0, ground := Ground.phase }, { on := 1, ground := Ground.textOnly Departure.lateStores }, { on := 2, ground := Ground.phase }, { on := 3, ground := Ground.phase }, { on := 4, ground := Ground.phase }, { on := 5, ground := Ground.phase }, { on := 6, ground := Ground.phase }, { on := 7, ground := Ground.phase }, { on := 8, ground := Ground.phase }, { on := 9, ground := Ground.textOnly Departure.lateStores }, { on := 10, ground := Ground.textOnly Departure.lateStoresUnsure }, { on := 11, ground := Ground.textOnly Departure.lateStoresUnsure }, { on := 12, ground := Ground.phase }, { on := 13, ground := Ground.textOnly Departure.lateStores }, { on := 14, ground := Ground.textOnly Departure.lateStoresUnsure }, { on := 15, ground := Ground.phase }], guard := none }) rfl (fun K hK => ?_) AllReadyD.nil
      go_simp
      try dsimp only
      refine hK.out _ _ (fun h => by cases h) ?_
      clear hK K
      try simp only [Act.put, List.setIfInBounds_toArray, List.set_cons_zero, List.set_cons_succ]
      refine wpAnyD_ready (rs := [17]) (by kernel_rfl) (by simp) ?_
      refine AllReadyD.cons (o := { dst := some 43, op := Op.fieldAddr 47 (Operand.tmp 42) 1, type := 0, pos := "source.go:43", after := #[{ on := 16, ground := Ground.data }, { on := 0, ground := Ground.phase }, { on := 1, ground := Ground.textOnly Departure.lateStores }, { on := 2, ground := Ground.phase }, { on := 3, ground := Ground.phase }, { on := 4, ground := Ground.phase }, { on := 5, ground := Ground.phase }, { on := 6, ground := Ground.phase }, { on := 7, ground := Ground.phase }, { on := 8, ground := Ground.phase }, { on := 9, ground := Ground.textOnly Departure.lateStores }, { on := 10, ground := Ground.textOnly Departure.lateStoresUnsure }, { on := 11, ground := Ground.textOnly Departure.lateStoresUnsure }, { on := 12, ground := Ground.phase }, { on := 13, ground := Ground.textOnly Departure.lateStores }, { on := 14, ground := Ground.textOnly Departure.lateStoresUnsure }, { on := 15, ground := Ground.phase }], guard := none }) rfl (fun K hK => ?_) AllReadyD.nil
      go_simp
      try dsimp only
      refine hK.out _ _ (fun h => by cases h) ?_
      clear hK K
      try simp only [Act.put, List.setIfInBounds_toArray, List.set_cons_zero, List.set_cons_succ]
      refine wpAnyD_ready (rs := [18]) (by kernel_rfl) (by simp) ?_
      refine AllReadyD.cons (o := { dst := none, op := Op.store 44 (Operand.tmp 43) (Operand.tmp 34), type := 0, pos := "source.go:43", after := #[{ on := 17, ground := Ground.data }, { on := 8, ground := Ground.data }, { on := 15, ground := Ground.chain }, { on := 0, ground := Ground.phase }, { on := 1, ground := Ground.textOnly Departure.lateStores }, { on := 2, ground := Ground.phase }, { on := 3, ground := Ground.phase }, { on := 4, ground := Ground.phase }, { on := 5, ground := Ground.phase }, { on := 6, ground := Ground.phase }, { on := 7, ground := Ground.phase }, { on := 8, ground := Ground.phase }, { on := 9, ground := Ground.textOnly Departure.lateStores }, { on := 10, ground := Ground.textOnly Departure.lateStoresUnsure }, { on := 11, ground := Ground.textOnly Departure.lateStoresUnsure }, { on := 12, ground := Ground.phase }, { on := 13, ground := Ground.textOnly Departure.lateStores }, { on := 14, ground := Ground.textOnly Departure.lateStoresUnsure }, { on := 15, ground := Ground.phase }], guard := none }) rfl (fun K hK => ?_) AllReadyD.nil
      go_simp
      try dsimp only
      refine hK.out _ _ (fun h => by cases h) ?_
      clear hK K
      try simp only [Act.put, List.setIfInBounds_toArray, List.set_cons_zero, List.set_cons_succ]
      refine wpAnyD_ready (rs := [19]) (by kernel_rfl) (by simp) ?_
      refine AllReadyD.cons (o := { dst := some 44, op := Op.nilCheck (Operand.tmp 27), type := 0, pos := "source.go:43", after := #[{ on := 1, ground := Ground.data }, { on := 0, ground := Ground.phase }, { on := 1, ground := Ground.phase }, { on := 2, ground := Ground.phase }, { on := 3, ground := Ground.phase }, { on := 4, ground := Ground.phase }, { on := 5, ground := Ground.phase }, { on := 6, ground := Ground.phase }, { on := 7, ground := Ground.phase }, { on := 8, ground := Ground.phase }, { on := 9, ground := Ground.phase }, { on := 10, ground := Ground.phase }, { on := 11, ground := Ground.phase }, { on := 12, ground := Ground.phase }, { on := 13, ground := Ground.phase }, { on := 14, ground := Ground.phase }, { on := 15, ground := Ground.phase }, { on := 16, ground := Ground.phase }, { on := 17, ground := Ground.phase }, { on := 18, ground := Ground.phase }], guard := none }) rfl (fun K hK => ?_) AllReadyD.nil
      go_simp
      try dsimp only
      refine hK.out _ _ (fun h => by cases h) ?_
      clear hK K
      try simp only [Act.put, List.setIfInBounds_toArray, List.set_cons_zero, List.set_cons_succ]
      refine wpAnyD_ready (rs := [20]) (by kernel_rfl) (by simp) ?_
      refine AllReadyD.cons (o := { dst := some 45, op := Op.fieldAddr 47 (Operand.tmp 44) 2, type := 0, pos := "source.go:43", after := #[{ on := 19, ground := Ground.data }, { on := 0, ground := Ground.phase }, { on := 1, ground := Ground.phase }, { on := 2, ground := Ground.phase }, { on := 3, ground := Ground.phase }, { on := 4, ground := Ground.phase }, { on := 5, ground := Ground.phase }, { on := 6, ground := Ground.phase }, { on := 7, ground := Ground.phase }, { on := 8, ground := Ground.phase }, { on := 9, ground := Ground.phase }, { on := 10, ground := Ground.phase }, { on := 11, ground := Ground.phase }, { on := 12, ground := Ground.phase }, { on := 13, ground := Ground.phase }, { on := 14, ground := Ground.phase }, { on := 15, ground := Ground.phase }, { on := 16, ground := Ground.phase }, { on := 17, ground := Ground.phase }, { on := 18, ground := Ground.phase }], guard := none }) rfl (fun K hK => ?_) AllReadyD.nil
      go_simp
      try dsimp only
      refine hK.out _ _ (fun h => by cases h) ?_
      clear hK K
      try simp only [Act.put, List.setIfInBounds_toArray, List.set_cons_zero, List.set_cons_succ]
      refine wpAnyD_ready (rs := [21]) (by kernel_rfl) (by simp) ?_
      refine AllReadyD.cons (o := { dst := none, op := Op.store 22 (Operand.tmp 45) (Operand.tmp 41), type := 0, pos := "source.go:43", after := #[{ on := 20, ground := Ground.data }, { on := 15, ground := Ground.data }, { on := 18, ground := Ground.chain }, { on := 0, ground := Ground.phase }, { on := 1, ground := Ground.phase }, { on := 2, ground := Ground.phase }, { on := 3, ground := Ground.phase }, { on := 4, ground := Ground.phase }, { on := 5, ground := Ground.phase }, { on := 6, ground := Ground.phase }, { on := 7, ground := Ground.phase }, { on := 8, ground := Ground.phase }, { on := 9, ground := Ground.phase }, { on := 10, ground := Ground.phase }, { on := 11, ground := Ground.phase }, { on := 12, ground := Ground.phase }, { on := 13, ground := Ground.phase }, { on := 14, ground := Ground.phase }, { on := 15, ground := Ground.phase }, { on := 16, ground := Ground.phase }, { on := 17, ground := Ground.phase }, { on := 18, ground := Ground.phase }], guard := none }) rfl (fun K hK => ?_) AllReadyD.nil
      go_simp
      try dsimp only
      refine hK.out _ _ (fun h => by cases h) ?_
      clear hK K
      try simp only [Act.put, List.setIfInBounds_toArray, List.set_cons_zero, List.set_cons_succ]
      refine wpAnyD_done (by kernel_rfl) ?_ _
      refine NoPanic.normal ?_
      go_wp2
      go_ret
      have hE := HG4.out.fin HN4.out HT4.out (snoc_all HSN.out ⟨s, rfl, hs⟩) (snoc_all HST.out ⟨t, rfl⟩) (by omega) (new_nopr HNN.out hH1 hat1) (new_nopr HNT.out hH2 hat2)
      exact ⟨s, rfl, hs, hE.1, hK4.trans hE.2⟩
    · go_simp
      try dsimp only
      refine hK.out _ _ (fun _ => ⟨((HG.out.drew.alloc _).alloc _).c1, ((HG.out.drew.alloc _).alloc _).c2⟩) ?_
      clear hK K
      try simp only [Act.put, List.setIfInBounds_toArray, List.set_cons_zero, List.set_cons_succ]
      refine wpAnyD_ready (rs := [8]) (by kernel_rfl) (by simp) ?_
      refine AllReadyD.cons (o := { dst := some 34, op := Op.call { callee := Callee.builtin Builtin.append, args := #[Operand.tmp 31, Operand.tmp 33], argTypes := #[44, 44] }, type := 44, pos := "source.go:43", after := #[{ on := 5, ground := Ground.data }, { on := 7, ground := Ground.data }], guard := none }) rfl (fun K hK => ?_) AllReadyD.nil
      refine step_append_lies _ (by rfl) _ _ _ (by rfl) 0 9 i0 _ 1 16 Tryz.underlying44 hi0 hz0 hz1 hz2 rfl (by omega) (.slice A1 k c1) k xs (by rfl) (((ownsRow_drew HN.out).alloc _).alloc _) ⟨w2.heap.size, 0, none⟩ 1 1 [.string s] (by rfl) (by rfl) (World.news_of_block (cs := #[.string s]) (t := 9) (fr := (0, 0)) (heap_old (heap_alloc_new w2.drew _) _)) (by simp [Value.oneCell']) (by omega) (by unfold maxLen; omega) (by omega) (by simp) (w2.heap.size + 2) (by simp [World.drew]) ?_
      intro gg1 cap1 w3 hown1 hgrow1 hat1 hlt1
      have hR3 := ((HG.out.drew.alloc (.cells #[.string s] 9)).alloc (.cells #[.int .i64 t] 3)).grown hgrow1 en1 en2 HNN.out
      have HT3 := Lib.hid (owns_other (((ownsRow_drew HT.out).alloc (.cells #[.string s] 9)).alloc (.cells #[.int .i64 t] 3)) hgrow1 (fun j hj q => ent j q hj))
      have HTB : Hid (w3.heap[w2.heap.size + 1]? = some (.cells #[.int .i64 t] 3)) := ((hgrow1.block (w2.heap.size + 1) (by first | (simp [World.drew]; done) | (simp [World.drew]; omega)) (fun q => own_fresh HN.out (k := w2.heap.size + 1) (by omega) q.symm)).trans (heap_new2 w2.drew _ _))
      refine hK.out _ _ (fun _ => ⟨hR3.1.c1, hR3.1.c2⟩) ?_
      clear hK K
      try simp only [Act.put, List.setIfInBounds_toArray, List.set_cons_zero, List.set_cons_succ]
      refine wpAnyD_ready (rs := [15]) (by kernel_rfl) (by simp) ?_
      refine AllReadyD.cons (o := { dst := some 41, op := Op.call { callee := Callee.builtin Builtin.append, args := #[Operand.tmp 38, Operand.tmp 40], argTypes := #[22, 22] }, type := 22, pos := "source.go:43", after := #[{ on := 12, ground := Ground.data }, { on := 14, ground := Ground.data }, { on := 8, ground := Ground.chain }], guard := none }) rfl (fun K hK => ?_) AllReadyD.nil
      refine step_append_lies _ (by rfl) _ _ _ (by rfl) 0 3 i1 _ 1 8 Tryz.underlying22 hi1 hy0 hy1 hy2 rfl (by omega) (.slice A2 k c2) k ts (by rfl) HT3.out ⟨w2.heap.size + 1, 0, none⟩ 1 1 [.int .i64 t] (by rfl) (by rfl) (World.news_of_block (cs := #[.int .i64 t]) (t := 3) (fr := (0, 0)) HTB.out) (by simp [Value.oneCell']) (by omega) (by unfold maxLen; omega) (by omega) (by simp) w3.heap.size rfl ?_
      intro gg2 cap2 w4 hown2 hgrow2 hat2 hlt2
      have hR4 := hR3.1.grown hgrow2 et1 et2 HNT.out
      have HN4 := Lib.hid (owns_other hown1 hgrow2 (fun j hj q => own_own_ne hown1 HT3.out (by decide) j hj q))
      have HT4 := Lib.hid hown2
      have HG4 := Lib.hid hR4.1
      have hK4 : Keep Pr w w4 := (((HK2.out.drew.alloc HGL.out (.cells #[.string s] 9)).alloc HGL.out (.cells #[.int .i64 t] 3)).trans hR3.2).trans hR4.2
      have hH1 : ∀ j, Pr j → j < w2.heap.size + 2 := fun j hj => by have := HG.out.lt j hj; omega
      have hH2 : ∀ j, Pr j → j < w3.heap.size := fun j hj => hR3.1.lt j hj
      refine hK.out _ _ (fun _ => ⟨hR4.1.c1, hR4.1.c2⟩) ?_
      clear hK K
      try simp only [Act.put, List.setIfInBounds_toArray, List.set_cons_zero, List.set_cons_succ]
      clear hR3 hR4 hown1 hown2 hgrow1 hgrow2 HT3 HTB hlt1 hlt2
      have z1 : w4.cell? ⟨X.wb, 1, none⟩ = some (.slice A1 k c1) := HG4.out.c1
      have z2 : w4.cell? ⟨X.wb, 2, none⟩ = some (.slice A2 k c2) := HG4.out.c2
      have y1 : w4.frozen? ⟨X.wb, 1, none⟩ = false := HG4.out.blk.frozen 1
      have y2 : w4.frozen? ⟨X.wb, 2, none⟩ = false := HG4.out.blk.frozen 2
      refine wpAnyD_ready (rs := [16]) (by kernel_rfl) (by simp) ?_
      refine AllReadyD.cons (o := { dst := some 42, op := Op.nilCheck (Operand.tmp 26), type := 0, pos := "source.go:43", after := #[{ on := 0, ground := Ground.data }, { on := 0, ground := Ground.phase }, { on := 1, ground := Ground.textOnly Departure.lateStores }, { on := 2, ground := Ground.phase }, { on := 3, ground := Ground.phase }, { on := 4, ground := Ground.phase }, { on := 5, ground := Ground.phase }, { on := 6, ground := Ground.phase }, { on := 7, ground := Ground.phase }, { on := 8, ground := Ground.phase }, { on := 9, ground := Ground.textOnly Departure.lateStores }, { on := 10, ground := Ground.textOnly Departure.lateStoresUnsure }, { on := 11, ground := Ground.textOnly Departure.lateStoresUnsure }, { on := 12, ground := Ground.phase }, { on := 13, ground := Ground.textOnly Departure.lateStores }, { on := 14, ground := Ground.textOnly Departure.lateStoresUnsure }, { on := 15, ground := Ground.phase }], guard := none }) rfl (fun K hK => ?_) AllReadyD.nil
      go_simp
      try dsimp only
      refine hK.out _ _ (fun h => by cases h) ?_
      clear hK K
      try simp only [Act.put, List.setIfInBounds_toArray, List.set_cons_zero, List.set_cons_succ]
      refine wpAnyD_ready (rs := [17]) (by kernel_rfl) (by simp) ?_
      refine AllReadyD.cons (o := { dst := some 43, op := Op.fieldAddr 47 (Operand.tmp 42) 1, type := 0, pos := "source.go:43", after := #[{ on := 16, ground := Ground.data }, { on := 0, ground := Ground.phase }, { on := 1, ground := Ground.textOnly Departure.lateStores }, { on := 2, ground := Ground.phase }, { on := 3, ground := Ground.phase }, { on := 4, ground := Ground.phase }, { on := 5, ground := Ground.phase }, { on := 6, ground := Ground.phase }, { on := 7, ground := Ground.phase }, { on := 8, ground := Ground.phase }, { on := 9, ground := Ground.textOnly Departure.lateStores }, { on := 10, ground := Ground.textOnly Departure.lateStoresUnsure }, { on := 11, ground := Ground.textOnly Departure.lateStoresUnsure }, { on := 12, ground := Ground.phase }, { on := 13, ground := Ground.textOnly Departure.lateStores }, { on := 14, ground := Ground.textOnly Departure.lateStoresUnsure }, { on := 15, ground := Ground.phase }], guard := none }) rfl (fun K hK => ?_) AllReadyD.nil
      go_simp
      try dsimp only
      refine hK.out _ _ (fun h => by cases h) ?_
      clear hK K
      try simp only [Act.put, List.setIfInBounds_toArray, List.set_cons_zero, List.set_cons_succ]
      refine wpAnyD_ready (rs := [18]) (by kernel_rfl) (by simp) ?_
      refine AllReadyD.cons (o := { dst := none, op := Op.store 44 (Operand.tmp 43) (Operand.tmp 34), type := 0, pos := "source.go:43", after := #[{ on := 17, ground := Ground.data }, { on := 8, ground := Ground.data }, { on := 15, ground := Ground.chain }, { on := 0, ground := Ground.phase }, { on := 1, ground := Ground.textOnly Departure.lateStores }, { on := 2, ground := Ground.phase }, { on := 3, ground := Ground.phase }, { on := 4, ground := Ground.phase }, { on := 5, ground := Ground.phase }, { on := 6, ground := Ground.phase }, { on := 7, ground := Ground.phase }, { on := 8, ground := Ground.phase }, { on := 9, ground := Ground.textOnly Departure.lateStores }, { on := 10, ground := Ground.textOnly Departure.lateStoresUnsure }, { on := 11, ground := Ground.textOnly Departure.lateStoresUnsure }, { on := 12, ground := Ground.phase }, { on := 13, ground := Ground.textOnly Departure.lateStores }, { on := 14, ground := Ground.textOnly Departure.lateStoresUnsure }, { on := 15, ground := Ground.phase }], guard := none }) rfl (fun K hK => ?_) AllReadyD.nil
      go_simp
      try dsimp only
      refine hK.out _ _ (fun h => by cases h) ?_
      clear hK K
      try simp only [Act.put, List.setIfInBounds_toArray, List.set_cons_zero, List.set_cons_succ]
      refine wpAnyD_ready (rs := [19]) (by kernel_rfl) (by simp) ?_
      refine AllReadyD.cons (o := { dst := some 44, op := Op.nilCheck (Operand.tmp 27), type := 0, pos := "source.go:43", after := #[{ on := 1, ground := Ground.data }, { on := 0, ground := Ground.phase }, { on := 1, ground := Ground.phase }, { on := 2, ground := Ground.phase }, { on := 3, ground := Ground.phase }, { on := 4, ground := Ground.phase }, { on := 5, ground := Ground.phase }, { on := 6, ground := Ground.phase }, { on := 7, ground := Ground.phase }, { on := 8, ground := Ground.phase }, { on := 9, ground := Ground.phase }, { on := 10, ground := Ground.phase }, { on := 11, ground := Ground.phase }, { on := 12, ground := Ground.phase }, { on := 13, ground := Ground.phase }, { on := 14, ground := Ground.phase }, { on := 15, ground := Ground.phase }, { on := 16, ground := Ground.phase }, { on := 17, ground := Ground.phase }, { on := 18, ground := Ground.phase }], guard := none }) rfl (fun K hK => ?_) AllReadyD.nil
      go_simp
      try dsimp only
      refine hK.out _ _ (fun h => by cases h) ?_
      clear hK K
      try simp only [Act.put, List.setIfInBounds_toArray, List.set_cons_zero, List.set_cons_succ]
      refine wpAnyD_ready (rs := [20]) (by kernel_rfl) (by simp) ?_
      refine AllReadyD.cons (o := { dst := some 45, op := Op.fieldAddr 47 (Operand.tmp 44) 2, type := 0, pos := "source.go:43", after := #[{ on := 19, ground := Ground.data }, { on := 0, ground := Ground.phase }, { on := 1, ground := Ground.phase }, { on := 2, ground := Ground.phase }, { on := 3, ground := Ground.phase }, { on := 4, ground := Ground.phase }, { on := 5, ground := Ground.phase }, { on := 6, ground := Ground.phase }, { on := 7, ground := Ground.phase }, { on := 8, ground := Ground.phase }, { on := 9, ground := Ground.phase }, { on := 10, ground := Ground.phase }, { on := 11, ground := Ground.phase }, { on := 12, ground := Ground.phase }, { on := 13, ground := Ground.phase }, { on := 14, ground := Ground.phase }, { on := 15, ground := Ground.phase }, { on := 16, ground := Ground.phase }, { on := 17, ground := Ground.phase }, { on := 18, ground := Ground.phase }], guard := none }) rfl (fun K hK => ?_) AllReadyD.nil
      go_simp
      try dsimp only
      refine hK.out _ _ (fun h => by cases h) ?_
      clear hK K
      try simp only [Act.put, List.setIfInBounds_toArray, List.set_cons_zero, List.set_cons_succ]
      refine wpAnyD_ready (rs := [21]) (by kernel_rfl) (by simp) ?_
      refine AllReadyD.cons (o := { dst := none, op := Op.store 22 (Operand.tmp 45) (Operand.tmp 41), type := 0, pos := "source.go:43", after := #[{ on := 20, ground := Ground.data }, { on := 15, ground := Ground.data }, { on := 18, ground := Ground.chain }, { on := 0, ground := Ground.phase }, { on := 1, ground := Ground.phase }, { on := 2, ground := Ground.phase }, { on := 3, ground := Ground.phase }, { on := 4, ground := Ground.phase }, { on := 5, ground := Ground.phase }, { on := 6, ground := Ground.phase }, { on := 7, ground := Ground.phase }, { on := 8, ground := Ground.phase }, { on := 9, ground := Ground.phase }, { on := 10, ground := Ground.phase }, { on := 11, ground := Ground.phase }, { on := 12, ground := Ground.phase }, { on := 13, ground := Ground.phase }, { on := 14, ground := Ground.phase }, { on := 15, ground := Ground.phase }, { on := 16, ground := Ground.phase }, { on := 17, ground := Ground.phase }, { on := 18, ground := Ground.phase }], guard := none }) rfl (fun K hK => ?_) AllReadyD.nil
      go_simp
      try dsimp only
      refine hK.out _ _ (fun h => by cases h) ?_
      clear hK K
      try simp only [Act.put, List.setIfInBounds_toArray, List.set_cons_zero, List.set_cons_succ]
      refine wpAnyD_done (by kernel_rfl) ?_ _
      refine NoPanic.normal ?_
      go_wp2
      go_ret
      have hE := HG4.out.fin HN4.out HT4.out (snoc_all HSN.out ⟨s, rfl, hs⟩) (snoc_all HST.out ⟨t, rfl⟩) (by omega) (new_nopr HNN.out hH1 hat1) (new_nopr HNT.out hH2 hat2)
      exact ⟨s, rfl, hs, hE.1, hK4.trans hE.2⟩
  · go_simp
    try dsimp only
    refine hK.out _ _ (fun _ => ⟨(HG.out.drew.alloc _).c1, (HG.out.drew.alloc _).c2⟩) ?_
    clear hK K
    try simp only [Act.put, List.setIfInBounds_toArray, List.set_cons_zero, List.set_cons_succ]
    refine wpAnyD_ready (rs := [7]) (by kernel_rfl) (by simp) ?_
    refine AllReadyD.cons (o := { dst := some 33, op := Op.buildSlice 44 1 #[(0, Operand.tmp 32)], type := 44, pos := "source.go:43", after := #[{ on := 6, ground := Ground.data }], guard := none }) rfl (fun K hK => ?_) AllReadyD.nil
    go_simp
    try dsimp only
    refine hK.out _ _ (fun _ => ⟨((HG.out.drew.alloc _).alloc _).c1, ((HG.out.drew.alloc _).alloc _).c2⟩) ?_
    clear hK K
    try simp only [Act.put, List.setIfInBounds_toArray, List.set_cons_zero, List.set_cons_succ]
    refine wpAnyD_ready (rs := [8]) (by kernel_rfl) (by simp) ?_
    refine AllReadyD.cons (o := { dst := some 34, op := Op.call { callee := Callee.builtin Builtin.append, args := #[Operand.tmp 31, Operand.tmp 33], argTypes := #[44, 44] }, type := 44, pos := "source.go:43", after := #[{ on := 5, ground := Ground.data }, { on := 7, ground := Ground.data }], guard := none }) rfl (fun K hK => ?_) AllReadyD.nil
    refine step_append_lies _ (by rfl) _ _ _ (by rfl) 0 9 i0 _ 1 16 Tryz.underlying44 hi0 hz0 hz1 hz2 rfl (by omega) (.slice A1 k c1) k xs (by rfl) (((ownsRow_drew HN.out).alloc _).alloc _) ⟨w2.heap.size + 1, 0, none⟩ 1 1 [.string s] (by rfl) (by rfl) (World.news_of_block (cs := #[.string s]) (t := 9) (fr := (0, 0)) (heap_new2 w2.drew _ _)) (by simp [Value.oneCell']) (by omega) (by unfold maxLen; omega) (by omega) (by simp) (w2.heap.size + 2) (by simp [World.drew]) ?_
    intro gg1 cap1 w3 hown1 hgrow1 hat1 hlt1
    have hR3 := ((HG.out.drew.alloc (.cells #[.int .i64 t] 3)).alloc (.cells #[.string s] 9)).grown hgrow1 en1 en2 HNN.out
    have HT3 := Lib.hid (owns_other (((ownsRow_drew HT.out).alloc (.cells #[.int .i64 t] 3)).alloc (.cells #[.string s] 9)) hgrow1 (fun j hj q => ent j q hj))
    have HTB : Hid (w3.heap[w2.heap.size]? = some (.cells #[.int .i64 t] 3)) := ((hgrow1.block (w2.heap.size) (by first | (simp [World.drew]; done) | (simp [World.drew]; omega)) (fun q => own_fresh HN.out (k := w2.heap.size) (by omega) q.symm)).trans (heap_old (heap_alloc_new w2.drew _) _))
    refine hK.out _ _ (fun _ => ⟨hR3.1.c1, hR3.1.c2⟩) ?_
    clear hK K
    try simp only [Act.put, List.setIfInBounds_toArray, List.set_cons_zero, List.set_cons_succ]
    refine wpAnyD_ready (rs := [15]) (by kernel_rfl) (by simp) ?_
    refine AllReadyD.cons (o := { dst := some 41, op := Op.call { callee := Callee.builtin Builtin.append, args := #[Operand.tmp 38, Operand.tmp 40], argTypes := #[22, 22] }, type := 22, pos := "source.go:43", after := #[{ on := 12, ground := Ground.data }, { on := 14, ground := Ground.data }, { on := 8, ground := Ground.chain }], guard := none }) rfl (fun K hK => ?_) AllReadyD.nil
    refine step_append_lies _ (by rfl) _ _ _ (by rfl) 0 3 i1 _ 1 8 Tryz.underlying22 hi1 hy0 hy1 hy2 rfl (by omega) (.slice A2 k c2) k ts (by rfl) HT3.out ⟨w2.heap.size, 0, none⟩ 1 1 [.int .i64 t] (by rfl) (by rfl) (World.news_of_block (cs := #[.int .i64 t]) (t := 3) (fr := (0, 0)) HTB.out) (by simp [Value.oneCell']) (by omega) (by unfold maxLen; omega) (by omega) (by simp) w3.heap.size rfl ?_
    intro gg2 cap2 w4 hown2 hgrow2 hat2 hlt2
    have hR4 := hR3.1.grown hgrow2 et1 et2 HNT.out
    have HN4 := Lib.hid (owns_other hown1 hgrow2 (fun j hj q => own_own_ne hown1 HT3.out (by decide) j hj q))
    have HT4 := Lib.hid hown2
    have HG4 := Lib.hid hR4.1
    have hK4 : Keep Pr w w4 := (((HK2.out.drew.alloc HGL.out (.cells #[.int .i64 t] 3)).alloc HGL.out (.cells #[.string s] 9)).trans hR3.2).trans hR4.2
    have hH1 : ∀ j, Pr j → j < w2.heap.size + 2 := fun j hj => by have := HG.out.lt j hj; omega
    have hH2 : ∀ j, Pr j → j < w3.heap.size := fun j hj => hR3.1.lt j hj
    refine hK.out _ _ (fun _ => ⟨hR4.1.c1, hR4.1.c2⟩) ?_
    clear hK K
    try simp only [Act.put, List.setIfInBounds_toArray, List.set_cons_zero, List.set_cons_succ]
    clear hR3 hR4 hown1 hown2 hgrow1 hgrow2 HT3 HTB hlt1 hlt2
    have z1 : w4.cell? ⟨X.wb, 1, none⟩ = some (.slice A1 k c1) := HG4.out.c1
    have z2 : w4.cell? ⟨X.wb, 2, none⟩ = some (.slice A2 k c2) := HG4.out.c2
    have y1 : w4.frozen? ⟨X.wb, 1, none⟩ = false := HG4.out.blk.frozen 1
    have y2 : w4.frozen? ⟨X.wb, 2, none⟩ = false := HG4.out.blk.frozen 2
    refine wpAnyD_ready (rs := [16]) (by kernel_rfl) (by simp) ?_
    refine AllReadyD.cons (o := { dst := some 42, op := Op.nilCheck (Operand.tmp 26), type := 0, pos := "source.go:43", after := #[{ on := 0, ground := Ground.data }, { on := 0, ground := Ground.phase }, { on := 1, ground := Ground.textOnly Departure.lateStores }, { on := 2, ground := Ground.phase }, { on := 3, ground := Ground.phase }, { on := 4, ground := Ground.phase }, { on := 5, ground := Ground.phase }, { on := 6, ground := Ground.phase }, { on := 7, ground := Ground.phase }, { on := 8, ground := Ground.phase }, { on := 9, ground := Ground.textOnly Departure.lateStores }, { on := 10, ground := Ground.textOnly Departure.lateStoresUnsure }, { on := 11, ground := Ground.textOnly Departure.lateStoresUnsure }, { on := 12, ground := Ground.phase }, { on := 13, ground := Ground.textOnly Departure.lateStores }, { on := 14, ground := Ground.textOnly Departure.lateStoresUnsure }, { on := 15, ground := Ground.phase }], guard := none }) rfl (fun K hK => ?_) AllReadyD.nil
    go_simp
    try dsimp only
    refine hK.out _ _ (fun h => by cases h) ?_
    clear hK K
    try simp only [Act.put, List.setIfInBounds_toArray, List.set_cons_zero, List.set_cons_succ]
    refine wpAnyD_ready (rs := [17]) (by kernel_rfl) (by simp) ?_
    refine AllReadyD.cons (o := { dst := some 43, op := Op.fieldAddr 47 (Operand.tmp 42) 1, type := 0, pos := "source.go:43", after := #[{ on := 16, ground := Ground.data }, { on := 0, ground := Ground.phase }, { on := 1, ground := Ground.textOnly Departure.lateStores }, { on := 2, ground := Ground.phase }, { on := 3, ground := Ground.phase }, { on := 4, ground := Ground.phase }, { on := 5, ground := Ground.phase }, { on := 6, ground := Ground.phase }, { on := 7, ground := Ground.phase }, { on := 8, ground := Ground.phase }, { on := 9, ground := Ground.textOnly Departure.lateStores }, { on := 10, ground := Ground.textOnly Departure.lateStoresUnsure }, { on := 11, ground := Ground.textOnly Departure.lateStoresUnsure }, { on := 12, ground := Ground.phase }, { on := 13, ground := Ground.textOnly Departure.lateStores }, { on := 14, ground := Ground.textOnly Departure.lateStoresUnsure }, { on := 15, ground := Ground.phase }], guard := none }) rfl (fun K hK => ?_) AllReadyD.nil
    go_simp
    try dsimp only
    refine hK.out _ _ (fun h => by cases h) ?_
    clear hK K
    try simp only [Act.put, List.setIfInBounds_toArray, List.set_cons_zero, List.set_cons_succ]
    refine wpAnyD_ready (rs := [18]) (by kernel_rfl) (by simp) ?_
    refine AllReadyD.cons (o := { dst := none, op := Op.store 44 (Operand.tmp 43) (Operand.tmp 34), type := 0, pos := "source.go:43", after := #[{ on := 17, ground := Ground.data }, { on := 8, ground := Ground.data }, { on := 15, ground := Ground.chain }, { on := 0, ground := Ground.phase }, { on := 1, ground := Ground.textOnly Departure.lateStores }, { on := 2, ground := Ground.phase }, { on := 3, ground := Ground.phase }, { on := 4, ground := Ground.phase }, { on := 5, ground := Ground.phase }, { on := 6, ground := Ground.phase }, { on := 7, ground := Ground.phase }, { on := 8, ground := Ground.phase }, { on := 9, ground := Ground.textOnly Departure.lateStores }, { on := 10, ground := Ground.textOnly Departure.lateStoresUnsure }, { on := 11, ground := Ground.textOnly Departure.lateStoresUnsure }, { on := 12, ground := Ground.phase }, { on := 13, ground := Ground.textOnly Departure.lateStores }, { on := 14, ground := Ground.textOnly Departure.lateStoresUnsure }, { on := 15, ground := Ground.phase }], guard := none }) rfl (fun K hK => ?_) AllReadyD.nil
    go_simp
    try dsimp only
    refine hK.out _ _ (fun h => by cases h) ?_
    clear hK K
    try simp only [Act.put, List.setIfInBounds_toArray, List.set_cons_zero, List.set_cons_succ]
    refine wpAnyD_ready (rs := [19]) (by kernel_rfl) (by simp) ?_
    refine AllReadyD.cons (o := { dst := some 44, op := Op.nilCheck (Operand.tmp 27), type := 0, pos := "source.go:43", after := #[{ on := 1, ground := Ground.data }, { on := 0, ground := Ground.phase }, { on := 1, ground := Ground.phase }, { on := 2, ground := Ground.phase }, { on := 3, ground := Ground.phase }, { on := 4, ground := Ground.phase }, { on := 5, ground := Ground.phase }, { on := 6, ground := Ground.phase }, { on := 7, ground := Ground.phase }, { on := 8, ground := Ground.phase }, { on := 9, ground := Ground.phase }, { on := 10, ground := Ground.phase }, { on := 11, ground := Ground.phase }, { on := 12, ground := Ground.phase }, { on := 13, ground := Ground.phase }, { on := 14, ground := Ground.phase }, { on := 15, ground := Ground.phase }, { on := 16, ground := Ground.phase }, { on := 17, ground := Ground.phase }, { on := 18, ground := Ground.phase }], guard := none }) rfl (fun K hK => ?_) AllReadyD.nil
    go_simp
    try dsimp only
    refine hK.out _ _ (fun h => by cases h) ?_
    clear hK K
    try simp only [Act.put, List.setIfInBounds_toArray, List.set_cons_zero, List.set_cons_succ]
    refine wpAnyD_ready (rs := [20]) (by kernel_rfl) (by simp) ?_
    refine AllReadyD.cons (o := { dst := some 45, op := Op.fieldAddr 47 (Operand.tmp 44) 2, type := 0, pos := "source.go:43", after := #[{ on := 19, ground := Ground.data }, { on := 0, ground := Ground.phase }, { on := 1, ground := Ground.phase }, { on := 2, ground := Ground.phase }, { on := 3, ground := Ground.phase }, { on := 4, ground := Ground.phase }, { on := 5, ground := Ground.phase }, { on := 6, ground := Ground.phase }, { on := 7, ground := Ground.phase }, { on := 8, ground := Ground.phase }, { on := 9, ground := Ground.phase }, { on := 10, ground := Ground.phase }, { on := 11, ground := Ground.phase }, { on := 12, ground := Ground.phase }, { on := 13, ground := Ground.phase }, { on := 14, ground := Ground.phase }, { on := 15, ground := Ground.phase }, { on := 16, ground := Ground.phase }, { on := 17, ground := Ground.phase }, { on := 18, ground := Ground.phase }], guard := none }) rfl (fun K hK => ?_) AllReadyD.nil
    go_simp
    try dsimp only
    refine hK.out _ _ (fun h => by cases h) ?_
    clear hK K
    try simp only [Act.put, List.setIfInBounds_toArray, List.set_cons_zero, List.set_cons_succ]
    refine wpAnyD_ready (rs := [21]) (by kernel_rfl) (by simp) ?_
    refine AllReadyD.cons (o := { dst := none, op := Op.store 22 (Operand.tmp 45) (Operand.tmp 41), type := 0, pos := "source.go:43", after := #[{ on := 20, ground := Ground.data }, { on := 15, ground := Ground.data }, { on := 18, ground := Ground.chain }, { on := 0, ground := Ground.phase }, { on := 1, ground := Ground.phase }, { on := 2, ground := Ground.phase }, { on := 3, ground := Ground.phase }, { on := 4, ground := Ground.phase }, { on := 5, ground := Ground.phase }, { on := 6, ground := Ground.phase }, { on := 7, ground := Ground.phase }, { on := 8, ground := Ground.phase }, { on := 9, ground := Ground.phase }, { on := 10, ground := Ground.phase }, { on := 11, ground := Ground.phase }, { on := 12, ground := Ground.phase }, { on := 13, ground := Ground.phase }, { on := 14, ground := Ground.phase }, { on := 15, ground := Ground.phase }, { on := 16, ground := Ground.phase }, { on := 17, ground := Ground.phase }, { on := 18, ground := Ground.phase }], guard := none }) rfl (fun K hK => ?_) AllReadyD.nil
    go_simp
    try dsimp only
    refine hK.out _ _ (fun h => by cases h) ?_
    clear hK K
    try simp only [Act.put, List.setIfInBounds_toArray, List.set_cons_zero, List.set_cons_succ]
    refine wpAnyD_done (by kernel_rfl) ?_ _
    refine NoPanic.normal ?_
    go_wp2
    go_ret
    have hE := HG4.out.fin HN4.out HT4.out (snoc_all HSN.out ⟨s, rfl, hs⟩) (snoc_all HST.out ⟨t, rfl⟩) (by omega) (new_nopr HNN.out hH1 hat1) (new_nopr HNT.out hH2 hat2)
    exact ⟨s, rfl, hs, hE.1, hK4.trans hE.2⟩

end Go.Proofs.YtkjjagmpnnnimaaGreatDoor

namespace Go.Proofs.YtkjjagmpnnnimaaGreatDoor
open Go.RowKit M

section
variable {w w' : World} {Pr Pr' : Nat → Prop} {X : GC} {k fr ch : Nat} {vn vt : Value} {xs ts : List Value}
/-- what stands below the heap's end is as it was -/
theorem GAt.below (h : GAt w Pr X k fr vn vt xs ts ch) (hb : Below w.heap.size w w') : GAt w' Pr X k fr vn vt xs ts ch ∧ Keep Pr w w' := by
  have hK : Keep Pr w w' := Keep.below hb h.lt
  have hK2 : Keep (· < w.heap.size) w w' := Keep.below hb (fun _ q => q)
  exact ⟨⟨h.blk.keep hK2 h.blk.lt, Blk.keep h.cho hK2 (Blk.lt h.cho), h.chn, h.ikeep hK, owns_below h.rn hb, owns_below h.rt hb, h.sn, h.st, h.kf, h.nw, h.ng, h.nn, h.nt, fun j hj => Nat.lt_of_lt_of_le (h.lt j hj) hb.size⟩, hK⟩
theorem GSt.below (h : GSt w Pr X k fr) (hb : Below w.heap.size w w') : GSt w' Pr X k fr ∧ Keep Pr w w' := by
  obtain ⟨a, b, c, d, e, h⟩ := h
  exact ⟨⟨a, b, c, d, e, (h.below hb).1⟩, (h.below hb).2⟩
theorem row_at {w : World} {e : TypeId} {v : Value} {n : Nat} {xs : List Value} (h : w.ownsRow 0 e 1 v n xs) {i : Nat} (hi : i < n) : ∃ g c u, v = .slice (some ⟨g, 0, none⟩) n c ∧ g < w.heap.size ∧ xs[i]? = some u ∧ w.cell? ⟨g, i, none⟩ = some u := by
  obtain ⟨g, c, e1, _, h2, _, h4⟩ := owns_cell h (by omega)
  have hl := h.1
  have hlt : i < xs.length := by omega
  exact ⟨g, c, xs[i], e1, h2, List.getElem?_eq_getElem hlt, h4 i _ (List.getElem?_eq_getElem hlt)⟩
/-- the i-th variable and its type -/
theorem GAt.nth (h : GAt w Pr X k fr vn vt xs ts ch) {i : Nat} (hi : i < k) : ∃ gn cn gt ct s z, vn = .slice (some ⟨gn, 0, none⟩) k cn ∧ vt = .slice (some ⟨gt, 0, none⟩) k ct ∧
    gn < w.heap.size ∧ gt < w.heap.size ∧ w.cell? ⟨gn, i, none⟩ = some (.string s) ∧ s.size ≤ 3 ∧ w.cell? ⟨gt, i, none⟩ = some (.int .i64 z) := by
  obtain ⟨gn, cn, u, e1, l1, m1, c1⟩ := row_at h.rn hi
  obtain ⟨gt, ct, z, e2, l2, m2, c2⟩ := row_at h.rt hi
  obtain ⟨s, rfl, hs⟩ := h.sn u (List.mem_of_getElem? m1)
  obtain ⟨z, rfl⟩ := h.st z (List.mem_of_getElem? m2)
  exact ⟨gn, cn, gt, ct, s, z, e1, e2, l1, l2, c1, hs, c2⟩
end

set_option maxRecDepth 100000 in
set_option maxHeartbeats 6400000 in
theorem gvariable (t : Int) {w : World} {Pr : Nat → Prop} {X : GC} {k fr : Nat} (h : GSt w Pr X k fr) (hn : X.n ≤ maxLen) (hf : fr ≤ 1000) :
    Calls Tryz.prog 37 #[.pointer (some ⟨X.wb, 0, none⟩), .int .i64 t] w (GPost w Pr X k fr 3 0) := by
  obtain ⟨vn, vt, xs, ts, ch, h⟩ := h
  have hkf := h.kf
  have HA := Lib.hid h
  have HN := Lib.hid hn
  obtain ⟨i0, hi0, hz0, hz1, hz2⟩ := info_parts string_info
  clear h hn
  go_enter Tryz.func37, Tryz.ntmps37
  go_wp2_with fail
  go_loopw [5, 6] (fun v i wr => ∃ (j : Nat) (ls : List Value), i = .int .i64 j ∧ j ≤ k ∧ ls.length ≤ j ∧ Hid (wr.ownsRow w.heap.size 9 1 v ls.length ls) ∧ Hid (∀ x ∈ ls, ∃ s : ByteArray, x = .string s ∧ s.size ≤ 3) ∧ Hid (Below w.heap.size w wr)) (fun _ i _ => k - (intOf i).toNat)
  case atStart => exact ⟨0, [], rfl, by omega, by simp, World.ownsRow_nil _ _ _ _, Lib.hid (fun x hx => by cases hx), Below.refl _ _⟩
  case round =>
    obtain ⟨j, ls, rfl, hj, hl, hO, hS, hB⟩ := hrel
    obtain ⟨A3, c3, rfl⟩ := owns_form hO.out
    have hbz := hB.out.size
    have HAr := Lib.hid (HA.out.below hB.out).1
    by_cases hlt : j < k
    · obtain ⟨gn, cn, gt, ct, s, z, rfl, rfl, _, _, x1, hs, x2⟩ := HAr.out.nth hlt
      have k1 : wr.cell? ⟨X.wb, 1, none⟩ = some (.slice (some ⟨gn, 0, none⟩) k cn) := HAr.out.blk.cell 1
      have k2 : wr.cell? ⟨X.wb, 2, none⟩ = some (.slice (some ⟨gt, 0, none⟩) k ct) := HAr.out.blk.cell 2
      have hjl : (j : Int) < (k : Int) := by omega
      have hw1 : IntKind.i64.wrap ((j : Int) + 1) = ((j + 1 : Nat) : Int) := by rw [IntWalk.i64_in _ (by omega)]; omega
      by_cases hzt : z = t
      · have g1 : (z == t) = true := beq_iff_eq.2 hzt
        clear hzt
        go_wp2_with (at_builtin; refine wpList_append_own _ rfl _ _ 44 rfl w.heap.size 9 i0 _ 1 16 Tryz.underlying44 hi0 hz0 hz1 hz2 rfl (by decide) _ _ _ rfl (hO.out.alloc _) ⟨wr.heap.size, 0, none⟩ 1 1 [.string s] rfl rfl (World.news_of_block (cs := #[.string s]) (t := 9) (fr := (0, 0)) (heap_alloc_new wr _)) (by simp [Value.oneCell']) (by unfold maxLen; omega) (by omega) (by simp; omega) ?_; intro v5 w5 hown5 hgrow5 _)
        have HO5 : Hid (w5.ownsRow w.heap.size 9 1 v5 (ls ++ [Value.string s]).length (ls ++ [Value.string s])) := by
          show World.ownsRow _ _ _ _ _ _ _
          rw [List.length_append]
          exact hown5
        have HB5 : Hid (Below w.heap.size w w5) := by
          refine (hB.out.alloc hbz _).trans ⟨hgrow5.os, hgrow5.tape, hgrow5.output, hgrow5.size, fun j hj => hgrow5.block j (by simp; omega) (fun e => ?_)⟩
          have := (hO.out.lt j e.symm).1; omega
        clear hown5 hgrow5
        go_wp2_with fail
        go_roundw
        case rel => exact ⟨j + 1, ls ++ [Value.string s], by go_num, by omega, by simp; omega, HO5, Lib.hid (snoc_all hS.out ⟨s, rfl, hs⟩), HB5⟩
        case measure => simp [intOf]; omega
      · have g1 : (z == t) = false := beq_eq_false_iff_ne.2 hzt
        clear hzt
        go_wp2_with fail
        go_roundw
        case rel => exact ⟨j + 1, ls, by go_num, by omega, by omega, hO, hS, hB⟩
        case measure => (try simp [intOf]); omega
    · obtain ⟨A1, c1, rfl⟩ := owns_form HAr.out.rn
      have k1 : wr.cell? ⟨X.wb, 1, none⟩ = some (.slice A1 k c1) := HAr.out.blk.cell 1
      have k0 : wr.cell? ⟨X.wb, 0, none⟩ = some (.pointer (some ⟨X.g, 0, none⟩)) := HAr.out.blk.cell 0
      have hjl : ¬ (j : Int) < (k : Int) := by omega
      by_cases hemp : ls.length = 0
      · have g1 : ((ls.length : Int) == 0) = true := beq_iff_eq.2 (by omega)
        clear hemp
        go_wp2_with fail
        go_ret
        exact ⟨_, fr, rfl, (by decide), by omega, by omega, ⟨_, _, _, _, _, HAr.out⟩, (HA.out.below hB.out).2⟩
      · have g1 : ((ls.length : Int) == 0) = false := beq_eq_false_iff_ne.2 (by omega)
        have HST : Hid (GSt wr (fun b => Pr b ∨ (w.heap.size ≤ b ∧ b < wr.heap.size)) X k fr) := by
          have h := HAr.out
          have h0 := HA.out
          refine ⟨_, _, _, _, _, ⟨h.blk, h.cho, h.chn, ?_, h.rn, h.rt, h.sn, h.st, h.kf, ?_, ?_, ?_, ?_, ?_⟩⟩
          · obtain ⟨B, q1, q2, q3⟩ := h.ints; exact ⟨B, q1, q2, fun b hb => .inl (q3 b hb)⟩
          · rintro (q | q)
            · exact h.nw q
            · have := h0.blk.lt; omega
          · rintro (q | q)
            · exact h.ng q
            · have := Blk.lt h0.cho; omega
          · rintro j hj (q | q)
            · exact h.nn j hj q
            · have := (h0.rn.lt j hj).2; omega
          · rintro j hj (q | q)
            · exact h.nt j hj q
            · have := (h0.rt.lt j hj).2; omega
          · rintro j (q | q)
            · exact h.lt j q
            · exact q.2
        obtain ⟨g3, c3', e3, hg3, hg3', _, hcell⟩ := owns_cell hO.out (by omega)
        injection e3 with e31 _ e33
        subst e31 e33
        have HC := Lib.hid hcell
        have HNX := Lib.hid (gnext (ls.length : Int) ls.length rfl (by omega) (by omega) HST.out HN.out)
        clear hcell hemp
        go_wp2_with fail
        refine HNX.out.mono ?_
        rintro e w2 ⟨r, hr, rfl, hG, hK⟩
        have hxl : r < ls.length := hr
        obtain ⟨s, es, hs⟩ := hS.out ls[r] (List.getElem_mem hxl)
        have x1 : w2.cell? ⟨g3, r, none⟩ = some (.string s) := (hK.cell (.inr ⟨hg3, hg3'⟩) r).trans (HC.out r _ (by rw [List.getElem?_eq_getElem hxl, es]))
        have HGS := Lib.hid hG
        have HKK := Lib.hid hK
        have b0 : (0 : Int) ≤ (r : Int) := by omega
        have b1 : (r : Int) < (ls.length : Int) := by omega
        clear hG hK es
        go_wp2_with fail
        go_ret
        refine ⟨s, fr, rfl, hs, by omega, by omega, ?_, (HA.out.below hB.out).2.trans (HKK.out.mono fun _ q => .inl q)⟩
        obtain ⟨a, b, c, d, e, h⟩ := HGS.out
        exact ⟨a, b, c, d, e, h.less (fun j q => .inl q) (fun j hj q => q.resolve_right (fun q2 => by have := Blk.lt HA.out.cho; omega))⟩

end Go.Proofs.YtkjjagmpnnnimaaGreatDoor
