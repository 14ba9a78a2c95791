/- The reference's Insert, behind its loop: a keyword that waits for its block, or the blocks are closed. -/
import Derived.Test.YtkjjagmpnnnimaaGreatDoorQ27
namespace Go.Proofs.YtkjjagmpnnnimaaGreatDoor
open Go.RowKit M

def afterLoop : Code → Option Code
  | .seq (.seq _ (.block 0 (.loop _))) c => some c
  | .seq a b => match afterLoop a with
    | some c => some c
    | none => afterLoop b
  | _ => none
noncomputable def rendC : Code := (Tryz.f24.body.bind afterLoop).getD .skip

set_option maxRecDepth 1000000 in
set_option maxHeartbeats 6400000 in
theorem rend_any (w wr : World) (L N : Nat) (s : LSt) (R : List Tok × (Int × Int) × Int) (hR : R = endL s) (hI : LInv N s) (hm : N ≤ 200000000) (hBO : s.item ≠ (0, 0) → s.line ≠ (0, 0) → aftB s.line s.item = true)
    (hB : RSt wr (orOne (· < w.heap.size + 1) L) (w.heap.size + 1 + 1) s) (hK : Keep (· < w.heap.size + 1) (w.alloc (.cells #[.int .i64 0, .int .i64 0] 25)) wr) (z0 z1 z2 z4 z6 z7 z8 z9 z10 z11 z12 z13 z14 z15 z16 z17 z18 z19 z20 z21 z22 z23 z24 z25 z26 z27 z28 z29 z30 z31 z32 z33 z34 z35 z36 z37 z38 z39 z40 z41 z42 z43 z44 z45 z46 z47 z48 z49 z50 z51 z52 z53 z54 z55 z56 z57 z58 z59 z60 z61 z62 z63 z64 z65 z66 z67 z68 z69 z70 z71 z72 z73 z74 z75 z76 z77 z78 z79 z80 z81 z82 z83 z84 z85 z86 z87 z88 z89 z90 z91 z92 z93 z94 z95 z96 z97 z98 z99 z100 z101 z102 z103 z104 z105 z106 z107 z108 z109 z110 z111 z112 z113 z114 z115 z116 z117 z118 z119 z120 z121 z122 z123 z124 z125 z126 z127 z128 z129 z130 z131 z132 z133 z134 z135 z136 z137 z138 z139 z140 z141 z142 z143 z144 z145 z146 z147 z148 z149 z150 z151 z152 z153 z154 z155 z156 z157 z158 z159 z160 z161 z162 z163 z164 z165 z166 z167 z168 z169 z170 z171 z172 z173 z174 z175 z176 z177 z178 z179 z180 z181 z182 z183 z184 z185 z186 z187 z188 z189 z190 z191 z192 z193 z194 z195 : Value) :
    Code.wp Tryz.prog rendC (bodyPost Tryz.prog Tryz.f24 (ScanPost R w)) ⟨List.toArray (z0 :: z1 :: z2 :: .pointer (some ⟨w.heap.size, 0, none⟩) :: z4 :: .pointer (some ⟨w.heap.size + 1 + 1, 0, none⟩) :: z6 :: z7 :: z8 :: z9 :: z10 :: z11 :: z12 :: z13 :: z14 :: z15 :: z16 :: z17 :: z18 :: z19 :: z20 :: z21 :: z22 :: z23 :: z24 :: z25 :: z26 :: z27 :: z28 :: z29 :: z30 :: z31 :: z32 :: z33 :: z34 :: z35 :: z36 :: z37 :: z38 :: z39 :: z40 :: z41 :: z42 :: z43 :: z44 :: z45 :: z46 :: z47 :: z48 :: z49 :: z50 :: z51 :: z52 :: z53 :: z54 :: z55 :: z56 :: z57 :: z58 :: z59 :: z60 :: z61 :: z62 :: z63 :: z64 :: z65 :: z66 :: z67 :: z68 :: z69 :: z70 :: z71 :: z72 :: z73 :: z74 :: z75 :: z76 :: z77 :: z78 :: z79 :: z80 :: z81 :: z82 :: z83 :: z84 :: z85 :: z86 :: z87 :: z88 :: z89 :: z90 :: z91 :: z92 :: z93 :: z94 :: z95 :: z96 :: z97 :: z98 :: z99 :: z100 :: z101 :: z102 :: z103 :: z104 :: z105 :: z106 :: z107 :: z108 :: z109 :: z110 :: z111 :: z112 :: z113 :: z114 :: z115 :: z116 :: z117 :: z118 :: z119 :: z120 :: z121 :: z122 :: z123 :: z124 :: z125 :: z126 :: z127 :: z128 :: z129 :: z130 :: z131 :: z132 :: z133 :: z134 :: z135 :: z136 :: z137 :: z138 :: z139 :: z140 :: z141 :: z142 :: z143 :: z144 :: z145 :: z146 :: z147 :: z148 :: z149 :: z150 :: z151 :: z152 :: z153 :: z154 :: z155 :: z156 :: z157 :: z158 :: z159 :: z160 :: z161 :: z162 :: z163 :: z164 :: z165 :: z166 :: z167 :: z168 :: z169 :: z170 :: z171 :: z172 :: z173 :: z174 :: z175 :: z176 :: z177 :: z178 :: z179 :: z180 :: z181 :: z182 :: z183 :: z184 :: z185 :: z186 :: z187 :: z188 :: z189 :: z190 :: z191 :: z192 :: z193 :: z194 :: z195 :: []), []⟩ wr := by
  conv => arg 2; whnf
  have hbelow : Below w.heap.size w wr := by
    have h1 : Keep (· < w.heap.size) w (w.alloc (.cells #[.int .i64 0, .int .i64 0] 25)) := (Keep.refl _ w).alloc (fun _ q => q) _
    exact (h1.trans (hK.mono fun k hk => by omega)).to_below
  have HBL := Lib.hid hbelow
  have p0 : wr.cell? ⟨w.heap.size, 0, none⟩ = some (.int .i64 0) := (hK.cell (by omega) 0).trans (cell_of_row _ _ 0 _ _ _ (heap_alloc_new w _))
  have p1 : wr.cell? ⟨w.heap.size, 1, none⟩ = some (.int .i64 0) := (hK.cell (by omega) 1).trans (cell_of_row _ _ 1 _ _ _ (heap_alloc_new w _))
  have pf : ∀ i, wr.frozen? ⟨w.heap.size, i, none⟩ = false := fun i => (hK.frozen (by omega) i).trans ((Blk.new w 25 #[.int .i64 0, .int .i64 0]).frozen i)
  have hwl : w.heap.size < wr.heap.size := hB.lt _ (.inl (by omega))
  have hgw : w.heap.size + 1 + 1 < wr.heap.size := hB.blt
  have HF2 := Lib.hid hR
  have HI := Lib.hid hI
  have HB := Lib.hid hB
  have HK := Lib.hid hK
  have HBO := Lib.hid hBO
  clear hR hI hB hK hBO hbelow
  obtain ⟨c2, c3, c4, c5, cf⟩ := HB.out.cells
  obtain ⟨⟨i1, i2⟩, hi⟩ : ∃ p, s.item = p := ⟨_, rfl⟩
  obtain ⟨⟨n1, n2⟩, hl⟩ : ∃ p, s.line = p := ⟨_, rfl⟩
  rw [hi] at c2 c3
  rw [hl] at c4 c5
  rw [hi, hl] at HBO
  simp only at c2 c3 c4 c5
  have HIT := Lib.hid hi
  have HLI := Lib.hid hl
  obtain ⟨ln, hln⟩ : ∃ ln : Bool, ln = !decide (((n1, n2) : Int × Int) = (0, 0)) := ⟨_, rfl⟩
  have HLN := Lib.hid hln
  clear hi hl hln
  go_upto_region 31 with fail
  go_cut [167] (fun s167 wx => s167 = .bool ln ∧ Below wr.heap.size wr wx)
  case first =>
    rcases pair_zero (n1, n2) with hli | ⟨hli, hli2⟩
    · injection hli with e1 e2
      subst e1 e2
      have HL0 : Hid (ln = false) := HLN.out
      have HS0 : Hid ((fun W => W.cell? ⟨w.heap.size + 1 + 1, 2, none⟩ = some (.int .i64 i1) ∧ W.cell? ⟨w.heap.size + 1 + 1, 3, none⟩ = some (.int .i64 i2) ∧ W.cell? ⟨w.heap.size + 1 + 1, 4, none⟩ = some (.int .i64 0) ∧ W.cell? ⟨w.heap.size + 1 + 1, 5, none⟩ = some (.int .i64 0) ∧ Hid (Below wr.heap.size wr W)) wr.drew) := ⟨c2, c3, c4, c5, below_drew (Below.refl _ _)⟩
      clear HBO
      refine wp_region_noPanic ?_
      refine wp_region_held_drew (S := (fun W => W.cell? ⟨w.heap.size + 1 + 1, 2, none⟩ = some (.int .i64 i1) ∧ W.cell? ⟨w.heap.size + 1 + 1, 3, none⟩ = some (.int .i64 i2) ∧ W.cell? ⟨w.heap.size + 1 + 1, 4, none⟩ = some (.int .i64 0) ∧ W.cell? ⟨w.heap.size + 1 + 1, 5, none⟩ = some (.int .i64 0) ∧ Hid (Below wr.heap.size wr W))) (by kernel_rfl) HS0.out (fun hHeld => ?_)
      refine wpAnyH_take (i := 0) (oi := { dst := some 143, op := Op.move (Operand.tmp 5), type := 73, pos := "layout.go:105", after := #[], guard := none }) (v := (.pointer (some ⟨w.heap.size + 1 + 1, 0, none⟩))) rfl (by kernel_rfl) (by kernel_rfl) (by kernel_rfl) (fun _ _ _ h => h) (Or.inl ⟨by rfl, by (intro w hSw; (try dsimp only at hSw); go_simp)⟩) (by assumption) ?_
      try simp only [Act.put, List.setIfInBounds_toArray, List.set_cons_zero, List.set_cons_succ]
      refine wpAnyH_take (i := 1) (oi := { dst := some 144, op := Op.nilCheck (Operand.tmp 143), type := 0, pos := "layout.go:105", after := #[{ on := 0, ground := Ground.data }], guard := none }) (v := (.pointer (some ⟨w.heap.size + 1 + 1, 0, none⟩))) rfl (by kernel_rfl) (by kernel_rfl) (by kernel_rfl) (fun _ _ _ h => h) (Or.inl ⟨by rfl, by (intro w hSw; (try dsimp only at hSw); go_simp)⟩) (by assumption) ?_
      try simp only [Act.put, List.setIfInBounds_toArray, List.set_cons_zero, List.set_cons_succ]
      refine wpAnyH_take (i := 2) (oi := { dst := some 145, op := Op.fieldAddr 75 (Operand.tmp 144) 3, type := 0, pos := "layout.go:105", after := #[{ on := 1, ground := Ground.data }], guard := none }) (v := (.pointer (some ⟨w.heap.size + 1 + 1, 4, none⟩))) rfl (by kernel_rfl) (by kernel_rfl) (by kernel_rfl) (fun _ _ _ h => h) (Or.inl ⟨by rfl, by (intro w hSw; (try dsimp only at hSw); go_simp)⟩) (by assumption) ?_
      try simp only [Act.put, List.setIfInBounds_toArray, List.set_cons_zero, List.set_cons_succ]
      refine wpAnyH_take (i := 3) (oi := { dst := some 146, op := Op.load 25 (Operand.tmp 145), type := 25, pos := "layout.go:105", after := #[{ on := 2, ground := Ground.data }], guard := none }) (v := (.agg #[.int .i64 0, .int .i64 0])) rfl (by kernel_rfl) (by kernel_rfl) (by kernel_rfl) (fun _ _ _ h => h) (Or.inl ⟨by rfl, by (intro w hSw; (try dsimp only at hSw); go_simp)⟩) (by assumption) ?_
      try simp only [Act.put, List.setIfInBounds_toArray, List.set_cons_zero, List.set_cons_succ]
      refine wpAnyH_take (i := 4) (oi := { dst := some 147, op := Op.build 25 #[], type := 25, pos := "layout.go:105", after := #[], guard := none }) (v := (.agg #[.int .i64 0, .int .i64 0])) rfl (by kernel_rfl) (by kernel_rfl) (by kernel_rfl) (fun _ _ _ h => h) (Or.inl ⟨by rfl, by (intro w hSw; (try dsimp only at hSw); go_simp)⟩) (by assumption) ?_
      try simp only [Act.put, List.setIfInBounds_toArray, List.set_cons_zero, List.set_cons_succ]
      refine wpAnyH_take (i := 5) (oi := { dst := some 148, op := Op.binOp BinOp.neq 25 (Operand.tmp 146) (Operand.tmp 147) 25, type := 4, pos := "layout.go:105", after := #[{ on := 3, ground := Ground.data }, { on := 4, ground := Ground.data }], guard := none }) (v := (.bool false)) rfl (by kernel_rfl) (by kernel_rfl) (by kernel_rfl) (fun _ _ _ h => h) (Or.inl ⟨by rfl, by (intro w hSw; (try dsimp only at hSw); go_simp)⟩) (by assumption) ?_
      try simp only [Act.put, List.setIfInBounds_toArray, List.set_cons_zero, List.set_cons_succ]
      refine wpAnyH_take (i := 6) (oi := { dst := some 149, op := Op.move (Operand.tmp 148), type := 4, pos := "layout.go:105", after := #[{ on := 5, ground := Ground.data }], guard := none }) (v := (.bool false)) rfl (by kernel_rfl) (by kernel_rfl) (by kernel_rfl) (fun _ _ _ h => h) (Or.inl ⟨by rfl, by (intro w hSw; (try dsimp only at hSw); go_simp)⟩) (by assumption) ?_
      try simp only [Act.put, List.setIfInBounds_toArray, List.set_cons_zero, List.set_cons_succ]
      refine wpAnyH_take (i := 7) (oi := { dst := some 150, op := Op.move (Operand.tmp 5), type := 73, pos := "layout.go:105", after := #[{ on := 6, ground := Ground.guard }], guard := some (6, true) }) (v := undef) rfl (by kernel_rfl) (by kernel_rfl) (by kernel_rfl) (fun _ _ _ h => h) (Or.inr ⟨by rfl, rfl⟩) (by assumption) ?_
      try simp only [Act.put, List.setIfInBounds_toArray, List.set_cons_zero, List.set_cons_succ]
      refine wpAnyH_take (i := 8) (oi := { dst := some 151, op := Op.nilCheck (Operand.tmp 150), type := 0, pos := "layout.go:105", after := #[{ on := 7, ground := Ground.data }, { on := 6, ground := Ground.guard }], guard := some (6, true) }) (v := undef) rfl (by kernel_rfl) (by kernel_rfl) (by kernel_rfl) (fun _ _ _ h => h) (Or.inr ⟨by rfl, rfl⟩) (by assumption) ?_
      try simp only [Act.put, List.setIfInBounds_toArray, List.set_cons_zero, List.set_cons_succ]
      refine wpAnyH_take (i := 9) (oi := { dst := some 152, op := Op.fieldAddr 75 (Operand.tmp 151) 2, type := 0, pos := "layout.go:105", after := #[{ on := 8, ground := Ground.data }, { on := 6, ground := Ground.guard }], guard := some (6, true) }) (v := undef) rfl (by kernel_rfl) (by kernel_rfl) (by kernel_rfl) (fun _ _ _ h => h) (Or.inr ⟨by rfl, rfl⟩) (by assumption) ?_
      try simp only [Act.put, List.setIfInBounds_toArray, List.set_cons_zero, List.set_cons_succ]
      refine wpAnyH_take (i := 10) (oi := { dst := some 153, op := Op.load 25 (Operand.tmp 152), type := 25, pos := "layout.go:105", after := #[{ on := 9, ground := Ground.data }, { on := 6, ground := Ground.guard }], guard := some (6, true) }) (v := undef) rfl (by kernel_rfl) (by kernel_rfl) (by kernel_rfl) (fun _ _ _ h => h) (Or.inr ⟨by rfl, rfl⟩) (by assumption) ?_
      try simp only [Act.put, List.setIfInBounds_toArray, List.set_cons_zero, List.set_cons_succ]
      refine wpAnyH_take (i := 11) (oi := { dst := some 154, op := Op.build 25 #[], type := 25, pos := "layout.go:105", after := #[{ on := 6, ground := Ground.guard }], guard := some (6, true) }) (v := undef) rfl (by kernel_rfl) (by kernel_rfl) (by kernel_rfl) (fun _ _ _ h => h) (Or.inr ⟨by rfl, rfl⟩) (by assumption) ?_
      try simp only [Act.put, List.setIfInBounds_toArray, List.set_cons_zero, List.set_cons_succ]
      refine wpAnyH_take (i := 12) (oi := { dst := some 155, op := Op.binOp BinOp.eql 25 (Operand.tmp 153) (Operand.tmp 154) 25, type := 4, pos := "layout.go:105", after := #[{ on := 10, ground := Ground.data }, { on := 11, ground := Ground.data }, { on := 6, ground := Ground.guard }], guard := some (6, true) }) (v := undef) rfl (by kernel_rfl) (by kernel_rfl) (by kernel_rfl) (fun _ _ _ h => h) (Or.inr ⟨by rfl, rfl⟩) (by assumption) ?_
      try simp only [Act.put, List.setIfInBounds_toArray, List.set_cons_zero, List.set_cons_succ]
      refine wpAnyH_take (i := 13) (oi := { dst := some 156, op := Op.move (Operand.tmp 155), type := 4, pos := "layout.go:105", after := #[{ on := 12, ground := Ground.data }, { on := 6, ground := Ground.chain }, { on := 6, ground := Ground.guard }], guard := some (6, true) }) (v := undef) rfl (by kernel_rfl) (by kernel_rfl) (by kernel_rfl) (fun _ _ _ h => h) (Or.inr ⟨by rfl, rfl⟩) (by assumption) ?_
      try simp only [Act.put, List.setIfInBounds_toArray, List.set_cons_zero, List.set_cons_succ]
      refine wpAnyH_take (i := 14) (oi := { dst := some 157, op := Op.move (Operand.tmp 5), type := 73, pos := "layout.go:105", after := #[{ on := 13, ground := Ground.guard }], guard := some (13, false) }) (v := undef) rfl (by kernel_rfl) (by kernel_rfl) (by kernel_rfl) (fun _ _ _ h => h) (Or.inr ⟨by rfl, rfl⟩) (by assumption) ?_
      try simp only [Act.put, List.setIfInBounds_toArray, List.set_cons_zero, List.set_cons_succ]
      refine wpAnyH_take (i := 15) (oi := { dst := some 158, op := Op.nilCheck (Operand.tmp 157), type := 0, pos := "layout.go:105", after := #[{ on := 14, ground := Ground.data }, { on := 13, ground := Ground.guard }], guard := some (13, false) }) (v := undef) rfl (by kernel_rfl) (by kernel_rfl) (by kernel_rfl) (fun _ _ _ h => h) (Or.inr ⟨by rfl, rfl⟩) (by assumption) ?_
      try simp only [Act.put, List.setIfInBounds_toArray, List.set_cons_zero, List.set_cons_succ]
      refine wpAnyH_take (i := 16) (oi := { dst := some 159, op := Op.fieldAddr 75 (Operand.tmp 158) 3, type := 0, pos := "layout.go:105", after := #[{ on := 15, ground := Ground.data }, { on := 13, ground := Ground.guard }], guard := some (13, false) }) (v := undef) rfl (by kernel_rfl) (by kernel_rfl) (by kernel_rfl) (fun _ _ _ h => h) (Or.inr ⟨by rfl, rfl⟩) (by assumption) ?_
      try simp only [Act.put, List.setIfInBounds_toArray, List.set_cons_zero, List.set_cons_succ]
      refine wpAnyH_take (i := 17) (oi := { dst := some 160, op := Op.load 25 (Operand.tmp 159), type := 25, pos := "layout.go:105", after := #[{ on := 16, ground := Ground.data }, { on := 13, ground := Ground.guard }], guard := some (13, false) }) (v := undef) rfl (by kernel_rfl) (by kernel_rfl) (by kernel_rfl) (fun _ _ _ h => h) (Or.inr ⟨by rfl, rfl⟩) (by assumption) ?_
      try simp only [Act.put, List.setIfInBounds_toArray, List.set_cons_zero, List.set_cons_succ]
      refine wpAnyH_take (i := 18) (oi := { dst := some 161, op := Op.move (Operand.tmp 5), type := 73, pos := "layout.go:105", after := #[{ on := 13, ground := Ground.guard }], guard := some (13, false) }) (v := undef) rfl (by kernel_rfl) (by kernel_rfl) (by kernel_rfl) (fun _ _ _ h => h) (Or.inr ⟨by rfl, rfl⟩) (by assumption) ?_
      try simp only [Act.put, List.setIfInBounds_toArray, List.set_cons_zero, List.set_cons_succ]
      refine wpAnyH_take (i := 19) (oi := { dst := some 162, op := Op.nilCheck (Operand.tmp 161), type := 0, pos := "layout.go:105", after := #[{ on := 18, ground := Ground.data }, { on := 13, ground := Ground.guard }], guard := some (13, false) }) (v := undef) rfl (by kernel_rfl) (by kernel_rfl) (by kernel_rfl) (fun _ _ _ h => h) (Or.inr ⟨by rfl, rfl⟩) (by assumption) ?_
      try simp only [Act.put, List.setIfInBounds_toArray, List.set_cons_zero, List.set_cons_succ]
      refine wpAnyH_take (i := 20) (oi := { dst := some 163, op := Op.fieldAddr 75 (Operand.tmp 162) 2, type := 0, pos := "layout.go:105", after := #[{ on := 19, ground := Ground.data }, { on := 13, ground := Ground.guard }], guard := some (13, false) }) (v := undef) rfl (by kernel_rfl) (by kernel_rfl) (by kernel_rfl) (fun _ _ _ h => h) (Or.inr ⟨by rfl, rfl⟩) (by assumption) ?_
      try simp only [Act.put, List.setIfInBounds_toArray, List.set_cons_zero, List.set_cons_succ]
      refine wpAnyH_take (i := 21) (oi := { dst := some 164, op := Op.load 25 (Operand.tmp 163), type := 25, pos := "layout.go:105", after := #[{ on := 20, ground := Ground.data }, { on := 13, ground := Ground.guard }], guard := some (13, false) }) (v := undef) rfl (by kernel_rfl) (by kernel_rfl) (by kernel_rfl) (fun _ _ _ h => h) (Or.inr ⟨by rfl, rfl⟩) (by assumption) ?_
      try simp only [Act.put, List.setIfInBounds_toArray, List.set_cons_zero, List.set_cons_succ]
      refine wpAnyH_take (i := 22) (oi := { dst := some 165, op := Op.call { callee := Callee.value (Operand.func 51), args := #[Operand.tmp 160, Operand.tmp 164], argTypes := #[25, 25] }, type := 4, pos := "layout.go:105", after := #[{ on := 17, ground := Ground.data }, { on := 21, ground := Ground.data }, { on := 13, ground := Ground.chain }, { on := 13, ground := Ground.guard }], guard := some (13, false) }) (v := undef) rfl (by kernel_rfl) (by kernel_rfl) (by kernel_rfl) (fun _ _ _ h => h) (Or.inr ⟨by rfl, rfl⟩) (by assumption) ?_
      try simp only [Act.put, List.setIfInBounds_toArray, List.set_cons_zero, List.set_cons_succ]
      refine wpAnyH_take (i := 23) (oi := { dst := some 166, op := Op.pick (Operand.tmp 156) (Operand.const (Value.bool true)) (Operand.tmp 165), type := 4, pos := "layout.go:105", after := #[{ on := 13, ground := Ground.data }, { on := 22, ground := Ground.data }, { on := 6, ground := Ground.guard }], guard := some (6, true) }) (v := undef) rfl (by kernel_rfl) (by kernel_rfl) (by kernel_rfl) (fun _ _ _ h => h) (Or.inr ⟨by rfl, rfl⟩) (by assumption) ?_
      try simp only [Act.put, List.setIfInBounds_toArray, List.set_cons_zero, List.set_cons_succ]
      refine wpAnyH_take (i := 24) (oi := { dst := some 167, op := Op.pick (Operand.tmp 149) (Operand.tmp 166) (Operand.const (Value.bool false)), type := 4, pos := "layout.go:105", after := #[{ on := 6, ground := Ground.data }, { on := 23, ground := Ground.data }], guard := none }) (v := (.bool false)) rfl (by kernel_rfl) (by kernel_rfl) (by kernel_rfl) (fun _ _ _ h => h) (Or.inl ⟨by rfl, by (intro w hSw; (try dsimp only at hSw); go_simp)⟩) (by assumption) ?_
      try simp only [Act.put, List.setIfInBounds_toArray, List.set_cons_zero, List.set_cons_succ]
      refine wpAnyH_done (by kernel_rfl) ?_ _
      refine NoPanic.normal ?_
      go_wp2_with fail
      go_meet
      case rel => exact ⟨by rw [HL0.out], below_drew (Below.refl _ _)⟩
    · have HL0 : Hid (ln = true) := by unfold Hid; rw [HLN.out, decide_eq_false hli]; rfl
      simp only at hli2
      rcases pair_zero (i1, i2) with hit | ⟨hit, hit2⟩
      · injection hit with e1 e2
        subst e1 e2
        have HS0 : Hid ((fun W => W.cell? ⟨w.heap.size + 1 + 1, 2, none⟩ = some (.int .i64 0) ∧ W.cell? ⟨w.heap.size + 1 + 1, 3, none⟩ = some (.int .i64 0) ∧ W.cell? ⟨w.heap.size + 1 + 1, 4, none⟩ = some (.int .i64 n1) ∧ W.cell? ⟨w.heap.size + 1 + 1, 5, none⟩ = some (.int .i64 n2) ∧ Hid (Below wr.heap.size wr W)) wr.drew) := ⟨c2, c3, c4, c5, below_drew (Below.refl _ _)⟩
        clear HBO hli
        refine wp_region_noPanic ?_
        refine wp_region_held_drew (S := (fun W => W.cell? ⟨w.heap.size + 1 + 1, 2, none⟩ = some (.int .i64 0) ∧ W.cell? ⟨w.heap.size + 1 + 1, 3, none⟩ = some (.int .i64 0) ∧ W.cell? ⟨w.heap.size + 1 + 1, 4, none⟩ = some (.int .i64 n1) ∧ W.cell? ⟨w.heap.size + 1 + 1, 5, none⟩ = some (.int .i64 n2) ∧ Hid (Below wr.heap.size wr W))) (by kernel_rfl) HS0.out (fun hHeld => ?_)
        refine wpAnyH_take (i := 0) (oi := { dst := some 143, op := Op.move (Operand.tmp 5), type := 73, pos := "layout.go:105", after := #[], guard := none }) (v := (.pointer (some ⟨w.heap.size + 1 + 1, 0, none⟩))) rfl (by kernel_rfl) (by kernel_rfl) (by kernel_rfl) (fun _ _ _ h => h) (Or.inl ⟨by rfl, by (intro w hSw; (try dsimp only at hSw); go_simp)⟩) (by assumption) ?_
        try simp only [Act.put, List.setIfInBounds_toArray, List.set_cons_zero, List.set_cons_succ]
        refine wpAnyH_take (i := 1) (oi := { dst := some 144, op := Op.nilCheck (Operand.tmp 143), type := 0, pos := "layout.go:105", after := #[{ on := 0, ground := Ground.data }], guard := none }) (v := (.pointer (some ⟨w.heap.size + 1 + 1, 0, none⟩))) rfl (by kernel_rfl) (by kernel_rfl) (by kernel_rfl) (fun _ _ _ h => h) (Or.inl ⟨by rfl, by (intro w hSw; (try dsimp only at hSw); go_simp)⟩) (by assumption) ?_
        try simp only [Act.put, List.setIfInBounds_toArray, List.set_cons_zero, List.set_cons_succ]
        refine wpAnyH_take (i := 2) (oi := { dst := some 145, op := Op.fieldAddr 75 (Operand.tmp 144) 3, type := 0, pos := "layout.go:105", after := #[{ on := 1, ground := Ground.data }], guard := none }) (v := (.pointer (some ⟨w.heap.size + 1 + 1, 4, none⟩))) rfl (by kernel_rfl) (by kernel_rfl) (by kernel_rfl) (fun _ _ _ h => h) (Or.inl ⟨by rfl, by (intro w hSw; (try dsimp only at hSw); go_simp)⟩) (by assumption) ?_
        try simp only [Act.put, List.setIfInBounds_toArray, List.set_cons_zero, List.set_cons_succ]
        refine wpAnyH_take (i := 3) (oi := { dst := some 146, op := Op.load 25 (Operand.tmp 145), type := 25, pos := "layout.go:105", after := #[{ on := 2, ground := Ground.data }], guard := none }) (v := (.agg #[.int .i64 n1, .int .i64 n2])) rfl (by kernel_rfl) (by kernel_rfl) (by kernel_rfl) (fun _ _ _ h => h) (Or.inl ⟨by rfl, by (intro w hSw; (try dsimp only at hSw); go_simp)⟩) (by assumption) ?_
        try simp only [Act.put, List.setIfInBounds_toArray, List.set_cons_zero, List.set_cons_succ]
        refine wpAnyH_take (i := 4) (oi := { dst := some 147, op := Op.build 25 #[], type := 25, pos := "layout.go:105", after := #[], guard := none }) (v := (.agg #[.int .i64 0, .int .i64 0])) rfl (by kernel_rfl) (by kernel_rfl) (by kernel_rfl) (fun _ _ _ h => h) (Or.inl ⟨by rfl, by (intro w hSw; (try dsimp only at hSw); go_simp)⟩) (by assumption) ?_
        try simp only [Act.put, List.setIfInBounds_toArray, List.set_cons_zero, List.set_cons_succ]
        refine wpAnyH_take (i := 5) (oi := { dst := some 148, op := Op.binOp BinOp.neq 25 (Operand.tmp 146) (Operand.tmp 147) 25, type := 4, pos := "layout.go:105", after := #[{ on := 3, ground := Ground.data }, { on := 4, ground := Ground.data }], guard := none }) (v := (.bool true)) rfl (by kernel_rfl) (by kernel_rfl) (by kernel_rfl) (fun _ _ _ h => h) (Or.inl ⟨by rfl, by (intro w hSw; (try dsimp only at hSw); rcases hli2 with hli2 | ⟨hli2, hli3⟩ <;> go_simp)⟩) (by assumption) ?_
        try simp only [Act.put, List.setIfInBounds_toArray, List.set_cons_zero, List.set_cons_succ]
        refine wpAnyH_take (i := 6) (oi := { dst := some 149, op := Op.move (Operand.tmp 148), type := 4, pos := "layout.go:105", after := #[{ on := 5, ground := Ground.data }], guard := none }) (v := (.bool true)) rfl (by kernel_rfl) (by kernel_rfl) (by kernel_rfl) (fun _ _ _ h => h) (Or.inl ⟨by rfl, by (intro w hSw; (try dsimp only at hSw); go_simp)⟩) (by assumption) ?_
        try simp only [Act.put, List.setIfInBounds_toArray, List.set_cons_zero, List.set_cons_succ]
        refine wpAnyH_take (i := 7) (oi := { dst := some 150, op := Op.move (Operand.tmp 5), type := 73, pos := "layout.go:105", after := #[{ on := 6, ground := Ground.guard }], guard := some (6, true) }) (v := (.pointer (some ⟨w.heap.size + 1 + 1, 0, none⟩))) rfl (by kernel_rfl) (by kernel_rfl) (by kernel_rfl) (fun _ _ _ h => h) (Or.inl ⟨by rfl, by (intro w hSw; (try dsimp only at hSw); go_simp)⟩) (by assumption) ?_
        try simp only [Act.put, List.setIfInBounds_toArray, List.set_cons_zero, List.set_cons_succ]
        refine wpAnyH_take (i := 8) (oi := { dst := some 151, op := Op.nilCheck (Operand.tmp 150), type := 0, pos := "layout.go:105", after := #[{ on := 7, ground := Ground.data }, { on := 6, ground := Ground.guard }], guard := some (6, true) }) (v := (.pointer (some ⟨w.heap.size + 1 + 1, 0, none⟩))) rfl (by kernel_rfl) (by kernel_rfl) (by kernel_rfl) (fun _ _ _ h => h) (Or.inl ⟨by rfl, by (intro w hSw; (try dsimp only at hSw); go_simp)⟩) (by assumption) ?_
        try simp only [Act.put, List.setIfInBounds_toArray, List.set_cons_zero, List.set_cons_succ]
        refine wpAnyH_take (i := 9) (oi := { dst := some 152, op := Op.fieldAddr 75 (Operand.tmp 151) 2, type := 0, pos := "layout.go:105", after := #[{ on := 8, ground := Ground.data }, { on := 6, ground := Ground.guard }], guard := some (6, true) }) (v := (.pointer (some ⟨w.heap.size + 1 + 1, 2, none⟩))) rfl (by kernel_rfl) (by kernel_rfl) (by kernel_rfl) (fun _ _ _ h => h) (Or.inl ⟨by rfl, by (intro w hSw; (try dsimp only at hSw); go_simp)⟩) (by assumption) ?_
        try simp only [Act.put, List.setIfInBounds_toArray, List.set_cons_zero, List.set_cons_succ]
        refine wpAnyH_take (i := 10) (oi := { dst := some 153, op := Op.load 25 (Operand.tmp 152), type := 25, pos := "layout.go:105", after := #[{ on := 9, ground := Ground.data }, { on := 6, ground := Ground.guard }], guard := some (6, true) }) (v := (.agg #[.int .i64 0, .int .i64 0])) rfl (by kernel_rfl) (by kernel_rfl) (by kernel_rfl) (fun _ _ _ h => h) (Or.inl ⟨by rfl, by (intro w hSw; (try dsimp only at hSw); go_simp)⟩) (by assumption) ?_
        try simp only [Act.put, List.setIfInBounds_toArray, List.set_cons_zero, List.set_cons_succ]
        refine wpAnyH_take (i := 11) (oi := { dst := some 154, op := Op.build 25 #[], type := 25, pos := "layout.go:105", after := #[{ on := 6, ground := Ground.guard }], guard := some (6, true) }) (v := (.agg #[.int .i64 0, .int .i64 0])) rfl (by kernel_rfl) (by kernel_rfl) (by kernel_rfl) (fun _ _ _ h => h) (Or.inl ⟨by rfl, by (intro w hSw; (try dsimp only at hSw); go_simp)⟩) (by assumption) ?_
        try simp only [Act.put, List.setIfInBounds_toArray, List.set_cons_zero, List.set_cons_succ]
        refine wpAnyH_take (i := 12) (oi := { dst := some 155, op := Op.binOp BinOp.eql 25 (Operand.tmp 153) (Operand.tmp 154) 25, type := 4, pos := "layout.go:105", after := #[{ on := 10, ground := Ground.data }, { on := 11, ground := Ground.data }, { on := 6, ground := Ground.guard }], guard := some (6, true) }) (v := (.bool true)) rfl (by kernel_rfl) (by kernel_rfl) (by kernel_rfl) (fun _ _ _ h => h) (Or.inl ⟨by rfl, by (intro w hSw; (try dsimp only at hSw); go_simp)⟩) (by assumption) ?_
        try simp only [Act.put, List.setIfInBounds_toArray, List.set_cons_zero, List.set_cons_succ]
        refine wpAnyH_take (i := 13) (oi := { dst := some 156, op := Op.move (Operand.tmp 155), type := 4, pos := "layout.go:105", after := #[{ on := 12, ground := Ground.data }, { on := 6, ground := Ground.chain }, { on := 6, ground := Ground.guard }], guard := some (6, true) }) (v := (.bool true)) rfl (by kernel_rfl) (by kernel_rfl) (by kernel_rfl) (fun _ _ _ h => h) (Or.inl ⟨by rfl, by (intro w hSw; (try dsimp only at hSw); go_simp)⟩) (by assumption) ?_
        try simp only [Act.put, List.setIfInBounds_toArray, List.set_cons_zero, List.set_cons_succ]
        refine wpAnyH_take (i := 14) (oi := { dst := some 157, op := Op.move (Operand.tmp 5), type := 73, pos := "layout.go:105", after := #[{ on := 13, ground := Ground.guard }], guard := some (13, false) }) (v := undef) rfl (by kernel_rfl) (by kernel_rfl) (by kernel_rfl) (fun _ _ _ h => h) (Or.inr ⟨by rfl, rfl⟩) (by assumption) ?_
        try simp only [Act.put, List.setIfInBounds_toArray, List.set_cons_zero, List.set_cons_succ]
        refine wpAnyH_take (i := 15) (oi := { dst := some 158, op := Op.nilCheck (Operand.tmp 157), type := 0, pos := "layout.go:105", after := #[{ on := 14, ground := Ground.data }, { on := 13, ground := Ground.guard }], guard := some (13, false) }) (v := undef) rfl (by kernel_rfl) (by kernel_rfl) (by kernel_rfl) (fun _ _ _ h => h) (Or.inr ⟨by rfl, rfl⟩) (by assumption) ?_
        try simp only [Act.put, List.setIfInBounds_toArray, List.set_cons_zero, List.set_cons_succ]
        refine wpAnyH_take (i := 16) (oi := { dst := some 159, op := Op.fieldAddr 75 (Operand.tmp 158) 3, type := 0, pos := "layout.go:105", after := #[{ on := 15, ground := Ground.data }, { on := 13, ground := Ground.guard }], guard := some (13, false) }) (v := undef) rfl (by kernel_rfl) (by kernel_rfl) (by kernel_rfl) (fun _ _ _ h => h) (Or.inr ⟨by rfl, rfl⟩) (by assumption) ?_
        try simp only [Act.put, List.setIfInBounds_toArray, List.set_cons_zero, List.set_cons_succ]
        refine wpAnyH_take (i := 17) (oi := { dst := some 160, op := Op.load 25 (Operand.tmp 159), type := 25, pos := "layout.go:105", after := #[{ on := 16, ground := Ground.data }, { on := 13, ground := Ground.guard }], guard := some (13, false) }) (v := undef) rfl (by kernel_rfl) (by kernel_rfl) (by kernel_rfl) (fun _ _ _ h => h) (Or.inr ⟨by rfl, rfl⟩) (by assumption) ?_
        try simp only [Act.put, List.setIfInBounds_toArray, List.set_cons_zero, List.set_cons_succ]
        refine wpAnyH_take (i := 18) (oi := { dst := some 161, op := Op.move (Operand.tmp 5), type := 73, pos := "layout.go:105", after := #[{ on := 13, ground := Ground.guard }], guard := some (13, false) }) (v := undef) rfl (by kernel_rfl) (by kernel_rfl) (by kernel_rfl) (fun _ _ _ h => h) (Or.inr ⟨by rfl, rfl⟩) (by assumption) ?_
        try simp only [Act.put, List.setIfInBounds_toArray, List.set_cons_zero, List.set_cons_succ]
        refine wpAnyH_take (i := 19) (oi := { dst := some 162, op := Op.nilCheck (Operand.tmp 161), type := 0, pos := "layout.go:105", after := #[{ on := 18, ground := Ground.data }, { on := 13, ground := Ground.guard }], guard := some (13, false) }) (v := undef) rfl (by kernel_rfl) (by kernel_rfl) (by kernel_rfl) (fun _ _ _ h => h) (Or.inr ⟨by rfl, rfl⟩) (by assumption) ?_
        try simp only [Act.put, List.setIfInBounds_toArray, List.set_cons_zero, List.set_cons_succ]
        refine wpAnyH_take (i := 20) (oi := { dst := some 163, op := Op.fieldAddr 75 (Operand.tmp 162) 2, type := 0, pos := "layout.go:105", after := #[{ on := 19, ground := Ground.data }, { on := 13, ground := Ground.guard }], guard := some (13, false) }) (v := undef) rfl (by kernel_rfl) (by kernel_rfl) (by kernel_rfl) (fun _ _ _ h => h) (Or.inr ⟨by rfl, rfl⟩) (by assumption) ?_
        try simp only [Act.put, List.setIfInBounds_toArray, List.set_cons_zero, List.set_cons_succ]
        refine wpAnyH_take (i := 21) (oi := { dst := some 164, op := Op.load 25 (Operand.tmp 163), type := 25, pos := "layout.go:105", after := #[{ on := 20, ground := Ground.data }, { on := 13, ground := Ground.guard }], guard := some (13, false) }) (v := undef) rfl (by kernel_rfl) (by kernel_rfl) (by kernel_rfl) (fun _ _ _ h => h) (Or.inr ⟨by rfl, rfl⟩) (by assumption) ?_
        try simp only [Act.put, List.setIfInBounds_toArray, List.set_cons_zero, List.set_cons_succ]
        refine wpAnyH_take (i := 22) (oi := { dst := some 165, op := Op.call { callee := Callee.value (Operand.func 51), args := #[Operand.tmp 160, Operand.tmp 164], argTypes := #[25, 25] }, type := 4, pos := "layout.go:105", after := #[{ on := 17, ground := Ground.data }, { on := 21, ground := Ground.data }, { on := 13, ground := Ground.chain }, { on := 13, ground := Ground.guard }], guard := some (13, false) }) (v := undef) rfl (by kernel_rfl) (by kernel_rfl) (by kernel_rfl) (fun _ _ _ h => h) (Or.inr ⟨by rfl, rfl⟩) (by assumption) ?_
        try simp only [Act.put, List.setIfInBounds_toArray, List.set_cons_zero, List.set_cons_succ]
        refine wpAnyH_take (i := 23) (oi := { dst := some 166, op := Op.pick (Operand.tmp 156) (Operand.const (Value.bool true)) (Operand.tmp 165), type := 4, pos := "layout.go:105", after := #[{ on := 13, ground := Ground.data }, { on := 22, ground := Ground.data }, { on := 6, ground := Ground.guard }], guard := some (6, true) }) (v := (.bool true)) rfl (by kernel_rfl) (by kernel_rfl) (by kernel_rfl) (fun _ _ _ h => h) (Or.inl ⟨by rfl, by (intro w hSw; (try dsimp only at hSw); go_simp)⟩) (by assumption) ?_
        try simp only [Act.put, List.setIfInBounds_toArray, List.set_cons_zero, List.set_cons_succ]
        refine wpAnyH_take (i := 24) (oi := { dst := some 167, op := Op.pick (Operand.tmp 149) (Operand.tmp 166) (Operand.const (Value.bool false)), type := 4, pos := "layout.go:105", after := #[{ on := 6, ground := Ground.data }, { on := 23, ground := Ground.data }], guard := none }) (v := (.bool true)) rfl (by kernel_rfl) (by kernel_rfl) (by kernel_rfl) (fun _ _ _ h => h) (Or.inl ⟨by rfl, by (intro w hSw; (try dsimp only at hSw); go_simp)⟩) (by assumption) ?_
        try simp only [Act.put, List.setIfInBounds_toArray, List.set_cons_zero, List.set_cons_succ]
        refine wpAnyH_done (by kernel_rfl) ?_ _
        refine NoPanic.normal ?_
        go_wp2_with fail
        go_meet
        case rel => exact ⟨by rw [HL0.out], below_drew (Below.refl _ _)⟩
      · have haf := HBO.out hit hli
        simp only at hit2
        have HS0 : Hid ((fun W => W.cell? ⟨w.heap.size + 1 + 1, 2, none⟩ = some (.int .i64 i1) ∧ W.cell? ⟨w.heap.size + 1 + 1, 3, none⟩ = some (.int .i64 i2) ∧ W.cell? ⟨w.heap.size + 1 + 1, 4, none⟩ = some (.int .i64 n1) ∧ W.cell? ⟨w.heap.size + 1 + 1, 5, none⟩ = some (.int .i64 n2) ∧ Hid (Below wr.heap.size wr W)) wr.drew) := ⟨c2, c3, c4, c5, below_drew (Below.refl _ _)⟩
        have HAFT : Hid (∀ W, (fun W => W.cell? ⟨w.heap.size + 1 + 1, 2, none⟩ = some (.int .i64 i1) ∧ W.cell? ⟨w.heap.size + 1 + 1, 3, none⟩ = some (.int .i64 i2) ∧ W.cell? ⟨w.heap.size + 1 + 1, 4, none⟩ = some (.int .i64 n1) ∧ W.cell? ⟨w.heap.size + 1 + 1, 5, none⟩ = some (.int .i64 n2) ∧ Hid (Below wr.heap.size wr W)) W → Calls Tryz.prog 51 #[posV n1 n2, posV i1 i2] W fun e w' => e = .returned (.bool true) ∧ (fun W => W.cell? ⟨w.heap.size + 1 + 1, 2, none⟩ = some (.int .i64 i1) ∧ W.cell? ⟨w.heap.size + 1 + 1, 3, none⟩ = some (.int .i64 i2) ∧ W.cell? ⟨w.heap.size + 1 + 1, 4, none⟩ = some (.int .i64 n1) ∧ W.cell? ⟨w.heap.size + 1 + 1, 5, none⟩ = some (.int .i64 n2) ∧ Hid (Below wr.heap.size wr W)) w') := fun W ⟨d2, d3, d4, d5, d6⟩ => by
          refine (rafter_any W (n1, n2) (i1, i2)).mono ?_
          rw [haf]
          rintro e w' ⟨he, hb⟩
          have hgW : w.heap.size + 1 + 1 < W.heap.size := Nat.lt_of_lt_of_le hgw d6.out.size
          exact ⟨he, (hb.cell (p := ⟨w.heap.size + 1 + 1, 2, none⟩) hgW).trans d2, (hb.cell (p := ⟨w.heap.size + 1 + 1, 3, none⟩) hgW).trans d3, (hb.cell (p := ⟨w.heap.size + 1 + 1, 4, none⟩) hgW).trans d4, (hb.cell (p := ⟨w.heap.size + 1 + 1, 5, none⟩) hgW).trans d5, d6.out.trans (hb.mono d6.out.size)⟩
        clear HBO hli hit haf
        refine wp_region_noPanic ?_
        refine wp_region_held_drew (S := (fun W => W.cell? ⟨w.heap.size + 1 + 1, 2, none⟩ = some (.int .i64 i1) ∧ W.cell? ⟨w.heap.size + 1 + 1, 3, none⟩ = some (.int .i64 i2) ∧ W.cell? ⟨w.heap.size + 1 + 1, 4, none⟩ = some (.int .i64 n1) ∧ W.cell? ⟨w.heap.size + 1 + 1, 5, none⟩ = some (.int .i64 n2) ∧ Hid (Below wr.heap.size wr W))) (by kernel_rfl) HS0.out (fun hHeld => ?_)
        refine wpAnyH_take (i := 0) (oi := { dst := some 143, op := Op.move (Operand.tmp 5), type := 73, pos := "layout.go:105", after := #[], guard := none }) (v := (.pointer (some ⟨w.heap.size + 1 + 1, 0, none⟩))) rfl (by kernel_rfl) (by kernel_rfl) (by kernel_rfl) (fun _ _ _ h => h) (Or.inl ⟨by rfl, by (intro w hSw; (try dsimp only at hSw); go_simp)⟩) (by assumption) ?_
        try simp only [Act.put, List.setIfInBounds_toArray, List.set_cons_zero, List.set_cons_succ]
        refine wpAnyH_take (i := 1) (oi := { dst := some 144, op := Op.nilCheck (Operand.tmp 143), type := 0, pos := "layout.go:105", after := #[{ on := 0, ground := Ground.data }], guard := none }) (v := (.pointer (some ⟨w.heap.size + 1 + 1, 0, none⟩))) rfl (by kernel_rfl) (by kernel_rfl) (by kernel_rfl) (fun _ _ _ h => h) (Or.inl ⟨by rfl, by (intro w hSw; (try dsimp only at hSw); go_simp)⟩) (by assumption) ?_
        try simp only [Act.put, List.setIfInBounds_toArray, List.set_cons_zero, List.set_cons_succ]
        refine wpAnyH_take (i := 2) (oi := { dst := some 145, op := Op.fieldAddr 75 (Operand.tmp 144) 3, type := 0, pos := "layout.go:105", after := #[{ on := 1, ground := Ground.data }], guard := none }) (v := (.pointer (some ⟨w.heap.size + 1 + 1, 4, none⟩))) rfl (by kernel_rfl) (by kernel_rfl) (by kernel_rfl) (fun _ _ _ h => h) (Or.inl ⟨by rfl, by (intro w hSw; (try dsimp only at hSw); go_simp)⟩) (by assumption) ?_
        try simp only [Act.put, List.setIfInBounds_toArray, List.set_cons_zero, List.set_cons_succ]
        refine wpAnyH_take (i := 3) (oi := { dst := some 146, op := Op.load 25 (Operand.tmp 145), type := 25, pos := "layout.go:105", after := #[{ on := 2, ground := Ground.data }], guard := none }) (v := (.agg #[.int .i64 n1, .int .i64 n2])) rfl (by kernel_rfl) (by kernel_rfl) (by kernel_rfl) (fun _ _ _ h => h) (Or.inl ⟨by rfl, by (intro w hSw; (try dsimp only at hSw); go_simp)⟩) (by assumption) ?_
        try simp only [Act.put, List.setIfInBounds_toArray, List.set_cons_zero, List.set_cons_succ]
        refine wpAnyH_take (i := 4) (oi := { dst := some 147, op := Op.build 25 #[], type := 25, pos := "layout.go:105", after := #[], guard := none }) (v := (.agg #[.int .i64 0, .int .i64 0])) rfl (by kernel_rfl) (by kernel_rfl) (by kernel_rfl) (fun _ _ _ h => h) (Or.inl ⟨by rfl, by (intro w hSw; (try dsimp only at hSw); go_simp)⟩) (by assumption) ?_
        try simp only [Act.put, List.setIfInBounds_toArray, List.set_cons_zero, List.set_cons_succ]
        refine wpAnyH_take (i := 5) (oi := { dst := some 148, op := Op.binOp BinOp.neq 25 (Operand.tmp 146) (Operand.tmp 147) 25, type := 4, pos := "layout.go:105", after := #[{ on := 3, ground := Ground.data }, { on := 4, ground := Ground.data }], guard := none }) (v := (.bool true)) rfl (by kernel_rfl) (by kernel_rfl) (by kernel_rfl) (fun _ _ _ h => h) (Or.inl ⟨by rfl, by (intro w hSw; (try dsimp only at hSw); rcases hli2 with hli2 | ⟨hli2, hli3⟩ <;> go_simp)⟩) (by assumption) ?_
        try simp only [Act.put, List.setIfInBounds_toArray, List.set_cons_zero, List.set_cons_succ]
        refine wpAnyH_take (i := 6) (oi := { dst := some 149, op := Op.move (Operand.tmp 148), type := 4, pos := "layout.go:105", after := #[{ on := 5, ground := Ground.data }], guard := none }) (v := (.bool true)) rfl (by kernel_rfl) (by kernel_rfl) (by kernel_rfl) (fun _ _ _ h => h) (Or.inl ⟨by rfl, by (intro w hSw; (try dsimp only at hSw); go_simp)⟩) (by assumption) ?_
        try simp only [Act.put, List.setIfInBounds_toArray, List.set_cons_zero, List.set_cons_succ]
        refine wpAnyH_take (i := 7) (oi := { dst := some 150, op := Op.move (Operand.tmp 5), type := 73, pos := "layout.go:105", after := #[{ on := 6, ground := Ground.guard }], guard := some (6, true) }) (v := (.pointer (some ⟨w.heap.size + 1 + 1, 0, none⟩))) rfl (by kernel_rfl) (by kernel_rfl) (by kernel_rfl) (fun _ _ _ h => h) (Or.inl ⟨by rfl, by (intro w hSw; (try dsimp only at hSw); go_simp)⟩) (by assumption) ?_
        try simp only [Act.put, List.setIfInBounds_toArray, List.set_cons_zero, List.set_cons_succ]
        refine wpAnyH_take (i := 8) (oi := { dst := some 151, op := Op.nilCheck (Operand.tmp 150), type := 0, pos := "layout.go:105", after := #[{ on := 7, ground := Ground.data }, { on := 6, ground := Ground.guard }], guard := some (6, true) }) (v := (.pointer (some ⟨w.heap.size + 1 + 1, 0, none⟩))) rfl (by kernel_rfl) (by kernel_rfl) (by kernel_rfl) (fun _ _ _ h => h) (Or.inl ⟨by rfl, by (intro w hSw; (try dsimp only at hSw); go_simp)⟩) (by assumption) ?_
        try simp only [Act.put, List.setIfInBounds_toArray, List.set_cons_zero, List.set_cons_succ]
        refine wpAnyH_take (i := 9) (oi := { dst := some 152, op := Op.fieldAddr 75 (Operand.tmp 151) 2, type := 0, pos := "layout.go:105", after := #[{ on := 8, ground := Ground.data }, { on := 6, ground := Ground.guard }], guard := some (6, true) }) (v := (.pointer (some ⟨w.heap.size + 1 + 1, 2, none⟩))) rfl (by kernel_rfl) (by kernel_rfl) (by kernel_rfl) (fun _ _ _ h => h) (Or.inl ⟨by rfl, by (intro w hSw; (try dsimp only at hSw); go_simp)⟩) (by assumption) ?_
        try simp only [Act.put, List.setIfInBounds_toArray, List.set_cons_zero, List.set_cons_succ]
        refine wpAnyH_take (i := 10) (oi := { dst := some 153, op := Op.load 25 (Operand.tmp 152), type := 25, pos := "layout.go:105", after := #[{ on := 9, ground := Ground.data }, { on := 6, ground := Ground.guard }], guard := some (6, true) }) (v := (.agg #[.int .i64 i1, .int .i64 i2])) rfl (by kernel_rfl) (by kernel_rfl) (by kernel_rfl) (fun _ _ _ h => h) (Or.inl ⟨by rfl, by (intro w hSw; (try dsimp only at hSw); go_simp)⟩) (by assumption) ?_
        try simp only [Act.put, List.setIfInBounds_toArray, List.set_cons_zero, List.set_cons_succ]
        refine wpAnyH_take (i := 11) (oi := { dst := some 154, op := Op.build 25 #[], type := 25, pos := "layout.go:105", after := #[{ on := 6, ground := Ground.guard }], guard := some (6, true) }) (v := (.agg #[.int .i64 0, .int .i64 0])) rfl (by kernel_rfl) (by kernel_rfl) (by kernel_rfl) (fun _ _ _ h => h) (Or.inl ⟨by rfl, by (intro w hSw; (try dsimp only at hSw); go_simp)⟩) (by assumption) ?_
        try simp only [Act.put, List.setIfInBounds_toArray, List.set_cons_zero, List.set_cons_succ]
        refine wpAnyH_take (i := 12) (oi := { dst := some 155, op := Op.binOp BinOp.eql 25 (Operand.tmp 153) (Operand.tmp 154) 25, type := 4, pos := "layout.go:105", after := #[{ on := 10, ground := Ground.data }, { on := 11, ground := Ground.data }, { on := 6, ground := Ground.guard }], guard := some (6, true) }) (v := (.bool false)) rfl (by kernel_rfl) (by kernel_rfl) (by kernel_rfl) (fun _ _ _ h => h) (Or.inl ⟨by rfl, by (intro w hSw; (try dsimp only at hSw); rcases hit2 with hit2 | ⟨hit2, hit3⟩ <;> go_simp)⟩) (by assumption) ?_
        try simp only [Act.put, List.setIfInBounds_toArray, List.set_cons_zero, List.set_cons_succ]
        refine wpAnyH_take (i := 13) (oi := { dst := some 156, op := Op.move (Operand.tmp 155), type := 4, pos := "layout.go:105", after := #[{ on := 12, ground := Ground.data }, { on := 6, ground := Ground.chain }, { on := 6, ground := Ground.guard }], guard := some (6, true) }) (v := (.bool false)) rfl (by kernel_rfl) (by kernel_rfl) (by kernel_rfl) (fun _ _ _ h => h) (Or.inl ⟨by rfl, by (intro w hSw; (try dsimp only at hSw); go_simp)⟩) (by assumption) ?_
        try simp only [Act.put, List.setIfInBounds_toArray, List.set_cons_zero, List.set_cons_succ]
        refine wpAnyH_take (i := 14) (oi := { dst := some 157, op := Op.move (Operand.tmp 5), type := 73, pos := "layout.go:105", after := #[{ on := 13, ground := Ground.guard }], guard := some (13, false) }) (v := (.pointer (some ⟨w.heap.size + 1 + 1, 0, none⟩))) rfl (by kernel_rfl) (by kernel_rfl) (by kernel_rfl) (fun _ _ _ h => h) (Or.inl ⟨by rfl, by (intro w hSw; (try dsimp only at hSw); go_simp)⟩) (by assumption) ?_
        try simp only [Act.put, List.setIfInBounds_toArray, List.set_cons_zero, List.set_cons_succ]
        refine wpAnyH_take (i := 15) (oi := { dst := some 158, op := Op.nilCheck (Operand.tmp 157), type := 0, pos := "layout.go:105", after := #[{ on := 14, ground := Ground.data }, { on := 13, ground := Ground.guard }], guard := some (13, false) }) (v := (.pointer (some ⟨w.heap.size + 1 + 1, 0, none⟩))) rfl (by kernel_rfl) (by kernel_rfl) (by kernel_rfl) (fun _ _ _ h => h) (Or.inl ⟨by rfl, by (intro w hSw; (try dsimp only at hSw); go_simp)⟩) (by assumption) ?_
        try simp only [Act.put, List.setIfInBounds_toArray, List.set_cons_zero, List.set_cons_succ]
        refine wpAnyH_take (i := 16) (oi := { dst := some 159, op := Op.fieldAddr 75 (Operand.tmp 158) 3, type := 0, pos := "layout.go:105", after := #[{ on := 15, ground := Ground.data }, { on := 13, ground := Ground.guard }], guard := some (13, false) }) (v := (.pointer (some ⟨w.heap.size + 1 + 1, 4, none⟩))) rfl (by kernel_rfl) (by kernel_rfl) (by kernel_rfl) (fun _ _ _ h => h) (Or.inl ⟨by rfl, by (intro w hSw; (try dsimp only at hSw); go_simp)⟩) (by assumption) ?_
        try simp only [Act.put, List.setIfInBounds_toArray, List.set_cons_zero, List.set_cons_succ]
        refine wpAnyH_take (i := 17) (oi := { dst := some 160, op := Op.load 25 (Operand.tmp 159), type := 25, pos := "layout.go:105", after := #[{ on := 16, ground := Ground.data }, { on := 13, ground := Ground.guard }], guard := some (13, false) }) (v := (.agg #[.int .i64 n1, .int .i64 n2])) rfl (by kernel_rfl) (by kernel_rfl) (by kernel_rfl) (fun _ _ _ h => h) (Or.inl ⟨by rfl, by (intro w hSw; (try dsimp only at hSw); go_simp)⟩) (by assumption) ?_
        try simp only [Act.put, List.setIfInBounds_toArray, List.set_cons_zero, List.set_cons_succ]
        refine wpAnyH_take (i := 18) (oi := { dst := some 161, op := Op.move (Operand.tmp 5), type := 73, pos := "layout.go:105", after := #[{ on := 13, ground := Ground.guard }], guard := some (13, false) }) (v := (.pointer (some ⟨w.heap.size + 1 + 1, 0, none⟩))) rfl (by kernel_rfl) (by kernel_rfl) (by kernel_rfl) (fun _ _ _ h => h) (Or.inl ⟨by rfl, by (intro w hSw; (try dsimp only at hSw); go_simp)⟩) (by assumption) ?_
        try simp only [Act.put, List.setIfInBounds_toArray, List.set_cons_zero, List.set_cons_succ]
        refine wpAnyH_take (i := 19) (oi := { dst := some 162, op := Op.nilCheck (Operand.tmp 161), type := 0, pos := "layout.go:105", after := #[{ on := 18, ground := Ground.data }, { on := 13, ground := Ground.guard }], guard := some (13, false) }) (v := (.pointer (some ⟨w.heap.size + 1 + 1, 0, none⟩))) rfl (by kernel_rfl) (by kernel_rfl) (by kernel_rfl) (fun _ _ _ h => h) (Or.inl ⟨by rfl, by (intro w hSw; (try dsimp only at hSw); go_simp)⟩) (by assumption) ?_
        try simp only [Act.put, List.setIfInBounds_toArray, List.set_cons_zero, List.set_cons_succ]
        refine wpAnyH_take (i := 20) (oi := { dst := some 163, op := Op.fieldAddr 75 (Operand.tmp 162) 2, type := 0, pos := "layout.go:105", after := #[{ on := 19, ground := Ground.data }, { on := 13, ground := Ground.guard }], guard := some (13, false) }) (v := (.pointer (some ⟨w.heap.size + 1 + 1, 2, none⟩))) rfl (by kernel_rfl) (by kernel_rfl) (by kernel_rfl) (fun _ _ _ h => h) (Or.inl ⟨by rfl, by (intro w hSw; (try dsimp only at hSw); go_simp)⟩) (by assumption) ?_
        try simp only [Act.put, List.setIfInBounds_toArray, List.set_cons_zero, List.set_cons_succ]
        refine wpAnyH_take (i := 21) (oi := { dst := some 164, op := Op.load 25 (Operand.tmp 163), type := 25, pos := "layout.go:105", after := #[{ on := 20, ground := Ground.data }, { on := 13, ground := Ground.guard }], guard := some (13, false) }) (v := (.agg #[.int .i64 i1, .int .i64 i2])) rfl (by kernel_rfl) (by kernel_rfl) (by kernel_rfl) (fun _ _ _ h => h) (Or.inl ⟨by rfl, by (intro w hSw; (try dsimp only at hSw); go_simp)⟩) (by assumption) ?_
        try simp only [Act.put, List.setIfInBounds_toArray, List.set_cons_zero, List.set_cons_succ]
        refine wpAnyH_ready (rs := [22]) (by kernel_rfl) (by simp) ?_
        refine AllReadyH.cons (o := { dst := some 165, op := Op.call { callee := Callee.value (Operand.func 51), args := #[Operand.tmp 160, Operand.tmp 164], argTypes := #[25, 25] }, type := 4, pos := "layout.go:105", after := #[{ on := 17, ground := Ground.data }, { on := 21, ground := Ground.data }, { on := 13, ground := Ground.chain }, { on := 13, ground := Ground.guard }], guard := some (13, false) }) rfl (fun K hK => ?_) AllReadyH.nil
        go_simp
        (go_at_call 51; refine (HAFT.out _ hHeld).mono ?_; rintro e w4 ⟨rfl, hS1⟩)
        dsimp only
        refine hK.out _ _ hS1 (fun hHeld => ?_)
        clear hK K
        try simp only [Act.put, List.setIfInBounds_toArray, List.set_cons_zero, List.set_cons_succ]
        refine wpAnyH_take (i := 23) (oi := { dst := some 166, op := Op.pick (Operand.tmp 156) (Operand.const (Value.bool true)) (Operand.tmp 165), type := 4, pos := "layout.go:105", after := #[{ on := 13, ground := Ground.data }, { on := 22, ground := Ground.data }, { on := 6, ground := Ground.guard }], guard := some (6, true) }) (v := (.bool true)) rfl (by kernel_rfl) (by kernel_rfl) (by kernel_rfl) (fun _ _ _ h => h) (Or.inl ⟨by rfl, by (intro w hSw; (try dsimp only at hSw); go_simp)⟩) (by assumption) ?_
        try simp only [Act.put, List.setIfInBounds_toArray, List.set_cons_zero, List.set_cons_succ]
        refine wpAnyH_take (i := 24) (oi := { dst := some 167, op := Op.pick (Operand.tmp 149) (Operand.tmp 166) (Operand.const (Value.bool false)), type := 4, pos := "layout.go:105", after := #[{ on := 6, ground := Ground.data }, { on := 23, ground := Ground.data }], guard := none }) (v := (.bool true)) rfl (by kernel_rfl) (by kernel_rfl) (by kernel_rfl) (fun _ _ _ h => h) (Or.inl ⟨by rfl, by (intro w hSw; (try dsimp only at hSw); go_simp)⟩) (by assumption) ?_
        try simp only [Act.put, List.setIfInBounds_toArray, List.set_cons_zero, List.set_cons_succ]
        refine wpAnyH_done (by kernel_rfl) ?_ _
        refine NoPanic.normal ?_
        go_wp2_with fail
        go_meet
        case rel => exact ⟨by rw [HL0.out], hS1.2.2.2.2.out⟩
  case rest =>
    obtain ⟨rfl, hbx⟩ := hcut
    generalize wc = w3 at *
    have d2 : w3.cell? ⟨w.heap.size + 1 + 1, 2, none⟩ = some (.int .i64 i1) := (hbx.cell (p := ⟨w.heap.size + 1 + 1, 2, none⟩) hgw).trans c2
    have d3 : w3.cell? ⟨w.heap.size + 1 + 1, 3, none⟩ = some (.int .i64 i2) := (hbx.cell (p := ⟨w.heap.size + 1 + 1, 3, none⟩) hgw).trans c3
    have d4 : w3.cell? ⟨w.heap.size + 1 + 1, 4, none⟩ = some (.int .i64 n1) := (hbx.cell (p := ⟨w.heap.size + 1 + 1, 4, none⟩) hgw).trans c4
    have d5 : w3.cell? ⟨w.heap.size + 1 + 1, 5, none⟩ = some (.int .i64 n2) := (hbx.cell (p := ⟨w.heap.size + 1 + 1, 5, none⟩) hgw).trans c5
    have q0 : w3.cell? ⟨w.heap.size, 0, none⟩ = some (.int .i64 0) := (hbx.cell (p := ⟨w.heap.size, 0, none⟩) hwl).trans p0
    have q1 : w3.cell? ⟨w.heap.size, 1, none⟩ = some (.int .i64 0) := (hbx.cell (p := ⟨w.heap.size, 1, none⟩) hwl).trans p1
    have qf : ∀ i, w3.frozen? ⟨w.heap.size, i, none⟩ = false := fun i => (hbx.frozen (p := ⟨w.heap.size, i, none⟩) hwl).trans (pf i)
    have HB3 := Lib.hid (HBL.out.trans (hbx.mono (by omega)))
    have HR3 := Lib.hid (HB.out.below hbx)
    have HK3 := Lib.hid (HK.out.trans (Keep.below hbx (fun j hj => by omega)))
    have hz3 : wr.heap.size ≤ w3.heap.size := hbx.size
    have hwl3 : w.heap.size < w3.heap.size := by omega
    clear hbx c2 c3 c4 c5 cf p0 p1 pf HBO
    cases ln
    case true =>
      have hn0 : ((n1, n2) : Int × Int) ≠ (0, 0) := fun q => by have := HLN.out; rw [decide_eq_true q] at this; cases this
      have HR1 : Hid (R = ([], (n1, n2), 3)) := by
        unfold Hid; rw [HF2.out]; unfold endL; rw [HLI.out, if_pos hn0]
      clear hn0 HF2
      go_wp2_with fail
      go_region
      all_goals
        go_wp2
        refine bodyPost_ret (v := .tuple #[.slice none 0 0, posV n1 n2, .int .i64 3]) ?_ rfl ?_
        · simp [results, Tryz.results24, go_sem, q0, q1]
        · rw [HR1.out]
          exact ⟨_, rfl, World.ownsRow_nil _ _ _ _, ((below_drew HB3.out).setCell (by simp) _).setCell (by simp) _⟩
    case false =>
      have hn0 : ((n1, n2) : Int × Int) = (0, 0) := by
        have := HLN.out
        by_cases q : ((n1, n2) : Int × Int) = (0, 0)
        · exact q
        · rw [decide_eq_false q] at this; cases this
      have HLI0 := Lib.hid (HLI.out.trans hn0)
      clear hn0
      rcases pair_zero (i1, i2) with hit | ⟨hit, hit2⟩
      · have HR1 : Hid (R = (s.out ++ List.replicate s.cols.length (mkT 7 (0, 0)), (0, 0), 0)) := by
          unfold Hid; rw [HF2.out]; unfold endL; rw [HLI0.out, HIT.out, hit, if_neg (by simp), if_neg (by simp)]
        injection hit with e1 e2
        subst e1 e2
        clear HF2
        go_wp2_with fail
        go_loopw [] (fun wr => ∃ j, RSt wr (· < w.heap.size + 1) (w.heap.size + 1 + 1) (EndS s j) ∧ j ≤ s.cols.length ∧ Keep (· < w.heap.size + 1) (w.alloc (.cells #[.int .i64 0, .int .i64 0] 25)) wr) (fun wr => colN wr (w.heap.size + 1 + 1))
        case atStart => exact ⟨0, by have := HR3.out.mono (Pr' := (· < w.heap.size + 1)) (fun j hj => .inl hj); simpa [EndS] using this, by omega, HK3.out⟩
        case round =>
          obtain ⟨j, hB4, hj, hK4⟩ := hrel
          have HB4 := Lib.hid hB4
          have HK4 := Lib.hid hK4
          have HCN := Lib.hid (rcolN_is hB4)
          obtain ⟨vt, vc, hBA⟩ := HB4.out
          clear hB4 hK4 d2 d3 d4 d5 q0 q1 qf
          by_cases hjc : j < s.cols.length
          · obtain ⟨x, r, hxr⟩ : ∃ x r, s.cols.drop j = x :: r := by
              cases hd : s.cols.drop j with
              | nil => have := congrArg List.length hd; simp at this; omega
              | cons x r => exact ⟨x, r, rfl⟩
            have hrl : r.length + 1 = s.cols.length - j := by have := congrArg List.length hxr; simpa using this.symm
            have HXR := Lib.hid hxr
            obtain ⟨gc, cap, rfl, _, _, _⟩ := hBA.cform (show (EndS s j).cols = x :: r from hxr)
            have k0 : wr.cell? ⟨w.heap.size + 1 + 1, 1, none⟩ = some (.slice (some ⟨gc, 0, none⟩) (r.length + 1 : Nat) cap) := hBA.blk.cell 1
            have HCL := Lib.hid (rclose_any wr _ (w.heap.size + 1 + 1) (EndS s j) 0 0 x r HB4.out hxr (by unfold EndS; simp; have := HI.out.out; omega) (by have := HI.out.size; omega))
            rw [endS_step s j x r hxr] at HCL
            clear hBA hxr
            go_wp2_with fail
            refine HCL.out.mono ?_
            rintro e w5 ⟨rfl, hB5, hK5⟩
            have HB5 := Lib.hid hB5
            have HK5 := Lib.hid (HK4.out.trans hK5)
            have HN5 := Lib.hid (rcolN_is hB5)
            clear hB5 hK5 HCL
            go_wp2
            go_roundw
            case rel => exact ⟨j + 1, HB5.out, by omega, HK5.out⟩
            case measure => rw [HN5.out, HCN.out]; unfold EndS; simp; omega
          · have hje : j = s.cols.length := by omega
            subst hje
            have hcols : (EndS s s.cols.length).cols = [] := by unfold EndS; simp
            obtain ⟨A5, c5, hv5⟩ := owns_form hBA.rc
            rw [hcols, List.length_nil] at hv5
            subst hv5
            obtain ⟨A6, c6, hv6⟩ := owns_form hBA.rt
            subst hv6
            have k0 : wr.cell? ⟨w.heap.size + 1 + 1, 1, none⟩ = some (.slice A5 0 c5) := hBA.blk.cell 1
            have k1 : wr.cell? ⟨w.heap.size + 1 + 1, 0, none⟩ = some (.slice A6 (EndS s s.cols.length).out.length c6) := hBA.blk.cell 0
            have y0 : wr.cell? ⟨w.heap.size, 0, none⟩ = some (.int .i64 0) := (HK4.out.cell (by omega) 0).trans (cell_of_row _ _ 0 _ _ _ (heap_alloc_new w _))
            have y1 : wr.cell? ⟨w.heap.size, 1, none⟩ = some (.int .i64 0) := (HK4.out.cell (by omega) 1).trans (cell_of_row _ _ 1 _ _ _ (heap_alloc_new w _))
            have yf : ∀ i, wr.frozen? ⟨w.heap.size, i, none⟩ = false := fun i => (HK4.out.frozen (by omega) i).trans ((Blk.new w 25 #[.int .i64 0, .int .i64 0]).frozen i)
            have HRT := Lib.hid (owns_from hBA.rt (B := w.heap.size) (fun k hk q => hBA.nt k hk (by omega)))
            have hne : (Value.slice A6 (EndS s s.cols.length).out.length c6).ownBlock ≠ some w.heap.size := fun q => hBA.nt _ q (by omega)
            have HNE := Lib.hid hne
            have HB5 : Hid (Below w.heap.size w wr) := ((((Keep.refl (· < w.heap.size) w).alloc (fun _ q => q) _).trans (HK4.out.mono fun k hk => by omega))).to_below
            clear hBA hne hcols
            go_wp2_with fail
            refine bodyPost_ret (v := .tuple #[.slice A6 (EndS s s.cols.length).out.length c6, posV 0 0, .int .i64 0]) ?_ rfl ?_
            · simp [results, Tryz.results24, go_sem, y0, y1]
            · rw [HR1.out]
              refine ⟨.slice A6 (EndS s s.cols.length).out.length c6, rfl, ?_, (HB5.out.setCell (by simp) _).setCell (by simp) _⟩
              exact owns_set (owns_set HRT.out HNE.out _) HNE.out _
      · have HR1 : Hid (R = ([], (i1, i2), 3)) := by
          unfold Hid; rw [HF2.out]; unfold endL; rw [HLI0.out, HIT.out, if_neg (by simp), if_pos hit]
        clear HF2 hit
        simp only at hit2
        rcases hit2 with hit2 | ⟨hit2, hit3⟩
        all_goals
          go_wp2_with fail
          go_region
          all_goals
            go_wp2
            refine bodyPost_ret (v := .tuple #[.slice none 0 0, posV i1 i2, .int .i64 3]) ?_ rfl ?_
            · simp [results, Tryz.results24, go_sem, q0, q1]
            · rw [HR1.out]
              exact ⟨_, rfl, World.ownsRow_nil _ _ _ _, ((below_drew HB3.out).setCell (by simp) _).setCell (by simp) _⟩


end Go.Proofs.YtkjjagmpnnnimaaGreatDoor
