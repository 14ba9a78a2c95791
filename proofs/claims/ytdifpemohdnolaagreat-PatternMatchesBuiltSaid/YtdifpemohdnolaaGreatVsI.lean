/- The reference's Int and Name. Condition of Name's bytes: a number of two bytes. -/
import Derived.Test.YtdifpemohdnolaaGreatVsE
import Derived.Deep.RegionHeld3
namespace Go.Proofs.YtdifpemohdnolaaGreat
open Go.RowKit VM

theorem wpAnyH_stronger {P : Program} {ops : Array Oper} {Q : Exit → Act → World → Prop} {md : Region.Mode} {S S' : World → Prop} (hS : ∀ w, S' w → S w) : ∀ {f : Nat} {l : Array Bool} {a : Act} {w : World}, wpAnyH P md ops Q S' f l a w → wpAnyH P md ops Q S f l a w := by
  intro f
  induction f with
  | zero => exact fun h => h
  | succ f ih => exact fun h => ⟨h.1, fun i hi => wpOp_mono (fun a' w' q => ⟨hS _ q.1, ih q.2⟩) (h.2 i hi)⟩
theorem conv_blk_str {w : World} {b n c : Nat} {cs : Array Value} {l : List UInt8} (h : Blk w b 5 cs) (hl : cs.toList = bCells l) (hn : l.length = n) : Sem.run Tryz.prog (convert 81 9 (.slice (some ⟨b, 0, none⟩) n c)) w = .ok (.string ⟨l.toArray⟩) w := by
  subst hn
  refine run_convert_bytes_back (P := Tryz.prog) w 81 9 5 ⟨b, 0, none⟩ c l Tryz.underlying81 Tryz.underlying5 Tryz.underlying9 (fun q hq => ?_)
  rw [add_at, Nat.zero_add, h.cell]
  have : cs.toList[q]? = some (.int .u8 (l[q].toNat : Int)) := by
    rw [hl]
    unfold bCells
    rw [List.getElem?_map, List.getElem?_eq_getElem hq]; rfl
  simpa using this
def intB (z : Int) : ByteArray := ⟨(1 :: eightL z).toArray⟩
def nameB (n : Nat) : ByteArray := ⟨(10 :: twoL n).toArray⟩
theorem ba_app (a b : List UInt8) : (⟨a.toArray⟩ : ByteArray) ++ ⟨b.toArray⟩ = ⟨(a ++ b).toArray⟩ := by
  apply ByteArray.ext
  simp
set_option maxRecDepth 100000 in
set_option maxHeartbeats 3200000 in
theorem rint_any (z : Int) (w : World) : Calls Tryz.prog 25 #[.int .i64 z] w fun e w' => e = .returned (.string (intB z)) ∧ Below w.heap.size w w' := by
  have HE := Lib.hid (fun w => eight_any z w)
  have HB0 := hide (Below.refl w.heap.size w)
  have HF : Hid ((⟨([1] : List UInt8).toArray⟩ : ByteArray) ++ ⟨(eightL z).toArray⟩ = intB z) := Lib.hid (ba_app _ _)
  have hs8 : (⟨(eightL z).toArray⟩ : ByteArray).size ≤ 8 := by show (eightL z).toArray.size ≤ 8; rw [List.size_toArray, eightL_len]; omega
  generalize (⟨(eightL z).toArray⟩ : ByteArray) = s8 at *
  go_enter Tryz.func25, Tryz.ntmps25
  go_wp2_with fail
  have HBd := hide (below_drew (unhide HB0))
  refine wp_region_noPanic ?_
  refine wp_region_held_drew (S := fun _ => True) (by kernel_rfl) trivial (fun _ => ?_)
  generalize w.drew = wd at *
  try simp only [Act.put, List.setIfInBounds_toArray, List.set_cons_zero, List.set_cons_succ]
  refine wpAnyH_take (i := 2) (oi := { dst := some 5, op := Op.move (Operand.tmp 0), type := 2, pos := "value.go:150", after := #[], guard := none }) (v := ?_) rfl (by kernel_rfl) (by kernel_rfl) (by kernel_rfl) (fun _ _ _ h => h) (Or.inl ⟨by rfl, ?_⟩) trivial ?_
  rotate_left 1
  · intro w hSw
    try dsimp only at hSw
    go_simp
    first
      | done
      | with_reducible rfl
      | rw [if_neg (by omega)]
  try simp only [Act.put, List.setIfInBounds_toArray, List.set_cons_zero, List.set_cons_succ]
  refine wpAnyH_ready (rs := [0, 3]) (by kernel_rfl) (by simp) ?_
  refine AllReadyH.cons (o := { dst := some 3, op := Op.buildSlice 81 1 #[(0, Operand.const (Value.int IntKind.u8 1))], type := 81, pos := "value.go:150", after := #[], guard := none }) rfl (fun K hK => ?_) (AllReadyH.cons (o := { dst := some 6, op := Op.call { callee := Callee.value (Operand.func 51), args := #[Operand.tmp 5], argTypes := #[2] }, type := 9, pos := "value.go:150", after := #[{ on := 2, ground := Ground.data }], guard := none }) rfl (fun K hK => ?_) (AllReadyH.nil))
  · go_simp
    try dsimp only
    have HK801 := hide (Blk.new wd 5 #[.int .u8 1])
    have HB801 := hide ((unhide HBd).alloc (unhide HBd).size (.cells #[.int .u8 1] 5))
    refine hK.out _ _ trivial (fun _ => ?_)
    clear hK K
    try simp only [Act.put, List.setIfInBounds_toArray, List.set_cons_zero, List.set_cons_succ]
    generalize wd.alloc (.cells #[.int .u8 1] 5) = wl801 at *
    generalize wd.heap.size = bl801 at *
    refine wpAnyH_stronger (S' := fun W => Blk W bl801 5 #[.int .u8 1]) (fun _ _ => trivial) ?_
    refine wpAnyH_take (i := 1) (oi := { dst := some 4, op := Op.convert 81 9 (Operand.tmp 3), type := 9, pos := "value.go:150", after := #[{ on := 0, ground := Ground.data }], guard := none }) (v := .string ⟨([1] : List UInt8).toArray⟩) rfl (by kernel_rfl) (by kernel_rfl) (by kernel_rfl) (fun _ _ _ h => h) (Or.inl ⟨by rfl, ?_⟩) (unhide HK801) ?_
    · intro w hSw
      have hcv := conv_blk_str (n := 1) (c := 1) hSw (l := [1]) rfl rfl
      go_simp
      try with_reducible rfl
    try simp only [Act.put, List.setIfInBounds_toArray, List.set_cons_zero, List.set_cons_succ]
    refine wpAnyH_ready (rs := [3]) (by kernel_rfl) (by simp) ?_
    refine AllReadyH.cons (o := { dst := some 6, op := Op.call { callee := Callee.value (Operand.func 51), args := #[Operand.tmp 5], argTypes := #[2] }, type := 9, pos := "value.go:150", after := #[{ on := 2, ground := Ground.data }], guard := none }) rfl (fun K hK => ?_) (AllReadyH.nil)
    go_simp
    go_at_call 51
    refine (HE.out _).mono ?_
    rintro e w802 ⟨rfl, hb802⟩
    have HB802 := hide ((unhide HB801).trans (hb802.mono (unhide HB801).size))
    have HK802 := hide (Blk.below (unhide HK801) hb802 (unhide HK801).lt)
    clear hb802
    try dsimp only
    refine hK.out _ _ (unhide HK802) (fun _ => ?_)
    clear hK K
    try simp only [Act.put, List.setIfInBounds_toArray, List.set_cons_zero, List.set_cons_succ]
    refine wpAnyH_take (i := 4) (oi := { dst := some 7, op := Op.binOp BinOp.add 9 (Operand.tmp 4) (Operand.tmp 6) 9, type := 9, pos := "value.go:150", after := #[{ on := 1, ground := Ground.data }, { on := 3, ground := Ground.data }], guard := none }) (v := ?_) rfl (by kernel_rfl) (by kernel_rfl) (by kernel_rfl) (fun _ _ _ h => h) (Or.inl ⟨by rfl, ?_⟩) (unhide HK802) ?_
    rotate_left 1
    · intro w hSw
      try dsimp only at hSw
      go_simp
      first
        | done
        | with_reducible rfl
        | rw [if_neg (by omega)]
    try simp only [Act.put, List.setIfInBounds_toArray, List.set_cons_zero, List.set_cons_succ]
    refine wpAnyH_take (i := 5) (oi := { dst := some 2, op := Op.assign (Operand.tmp 7), type := 23, pos := "value.go:150", after := #[{ on := 4, ground := Ground.data }, { on := 3, ground := Ground.chain }, { on := 0, ground := Ground.phase }, { on := 1, ground := Ground.phase }, { on := 2, ground := Ground.phase }, { on := 3, ground := Ground.phase }, { on := 4, ground := Ground.phase }], guard := none }) (v := ?_) rfl (by kernel_rfl) (by kernel_rfl) (by kernel_rfl) (fun _ _ _ h => h) (Or.inl ⟨by rfl, ?_⟩) (unhide HK802) ?_
    rotate_left 1
    · intro w hSw
      try dsimp only at hSw
      go_simp
      first
        | done
        | with_reducible rfl
        | rw [if_neg (by omega)]
    try simp only [Act.put, List.setIfInBounds_toArray, List.set_cons_zero, List.set_cons_succ]
    refine wpAnyH_done (by kernel_rfl) ?_ _
    refine NoPanic.normal ?_
    have HBend := HB802
    go_wp2_with fail
    go_ret
    exact ⟨by rw [← HF.out]; rfl, unhide HBend⟩
  · go_simp
    go_at_call 51
    refine (HE.out _).mono ?_
    rintro e w803 ⟨rfl, hb803⟩
    have HB803 := hide ((unhide HBd).trans (hb803.mono (unhide HBd).size))
    clear hb803
    try dsimp only
    refine hK.out _ _ trivial (fun _ => ?_)
    clear hK K
    try simp only [Act.put, List.setIfInBounds_toArray, List.set_cons_zero, List.set_cons_succ]
    refine wpAnyH_ready (rs := [0]) (by kernel_rfl) (by simp) ?_
    refine AllReadyH.cons (o := { dst := some 3, op := Op.buildSlice 81 1 #[(0, Operand.const (Value.int IntKind.u8 1))], type := 81, pos := "value.go:150", after := #[], guard := none }) rfl (fun K hK => ?_) (AllReadyH.nil)
    go_simp
    try dsimp only
    have HK804 := hide (Blk.new w803 5 #[.int .u8 1])
    have HB804 := hide ((unhide HB803).alloc (unhide HB803).size (.cells #[.int .u8 1] 5))
    refine hK.out _ _ trivial (fun _ => ?_)
    clear hK K
    try simp only [Act.put, List.setIfInBounds_toArray, List.set_cons_zero, List.set_cons_succ]
    generalize w803.alloc (.cells #[.int .u8 1] 5) = wl804 at *
    generalize w803.heap.size = bl804 at *
    refine wpAnyH_stronger (S' := fun W => Blk W bl804 5 #[.int .u8 1]) (fun _ _ => trivial) ?_
    refine wpAnyH_take (i := 1) (oi := { dst := some 4, op := Op.convert 81 9 (Operand.tmp 3), type := 9, pos := "value.go:150", after := #[{ on := 0, ground := Ground.data }], guard := none }) (v := .string ⟨([1] : List UInt8).toArray⟩) rfl (by kernel_rfl) (by kernel_rfl) (by kernel_rfl) (fun _ _ _ h => h) (Or.inl ⟨by rfl, ?_⟩) (unhide HK804) ?_
    · intro w hSw
      have hcv := conv_blk_str (n := 1) (c := 1) hSw (l := [1]) rfl rfl
      go_simp
      try with_reducible rfl
    try simp only [Act.put, List.setIfInBounds_toArray, List.set_cons_zero, List.set_cons_succ]
    refine wpAnyH_take (i := 4) (oi := { dst := some 7, op := Op.binOp BinOp.add 9 (Operand.tmp 4) (Operand.tmp 6) 9, type := 9, pos := "value.go:150", after := #[{ on := 1, ground := Ground.data }, { on := 3, ground := Ground.data }], guard := none }) (v := ?_) rfl (by kernel_rfl) (by kernel_rfl) (by kernel_rfl) (fun _ _ _ h => h) (Or.inl ⟨by rfl, ?_⟩) (unhide HK804) ?_
    rotate_left 1
    · intro w hSw
      try dsimp only at hSw
      go_simp
      first
        | done
        | with_reducible rfl
        | rw [if_neg (by omega)]
    try simp only [Act.put, List.setIfInBounds_toArray, List.set_cons_zero, List.set_cons_succ]
    refine wpAnyH_take (i := 5) (oi := { dst := some 2, op := Op.assign (Operand.tmp 7), type := 23, pos := "value.go:150", after := #[{ on := 4, ground := Ground.data }, { on := 3, ground := Ground.chain }, { on := 0, ground := Ground.phase }, { on := 1, ground := Ground.phase }, { on := 2, ground := Ground.phase }, { on := 3, ground := Ground.phase }, { on := 4, ground := Ground.phase }], guard := none }) (v := ?_) rfl (by kernel_rfl) (by kernel_rfl) (by kernel_rfl) (fun _ _ _ h => h) (Or.inl ⟨by rfl, ?_⟩) (unhide HK804) ?_
    rotate_left 1
    · intro w hSw
      try dsimp only at hSw
      go_simp
      first
        | done
        | with_reducible rfl
        | rw [if_neg (by omega)]
    try simp only [Act.put, List.setIfInBounds_toArray, List.set_cons_zero, List.set_cons_succ]
    refine wpAnyH_done (by kernel_rfl) ?_ _
    refine NoPanic.normal ?_
    have HBend := HB804
    go_wp2_with fail
    go_ret
    exact ⟨by rw [← HF.out]; rfl, unhide HBend⟩
set_option maxRecDepth 100000 in
set_option maxHeartbeats 3200000 in
theorem rname_any (n : Nat) (hn : n < 65536) (w : World) : Calls Tryz.prog 28 #[.int .i64 (n : Int)] w fun e w' => e = .returned (.string (nameB n)) ∧ Below w.heap.size w w' := by
  have HE := Lib.hid (fun w => rtwo_any n hn w)
  have HB0 := hide (Below.refl w.heap.size w)
  have HF : Hid ((⟨([10] : List UInt8).toArray⟩ : ByteArray) ++ ⟨(twoL n).toArray⟩ = nameB n) := Lib.hid (ba_app _ _)
  have hs8 : (⟨(twoL n).toArray⟩ : ByteArray).size ≤ 2 := by show (twoL n).toArray.size ≤ 2; rw [List.size_toArray]; exact Nat.le_refl 2
  generalize (⟨(twoL n).toArray⟩ : ByteArray) = s8 at *
  go_enter Tryz.func28, Tryz.ntmps28
  go_wp2_with fail
  have HBd := hide (below_drew (unhide HB0))
  refine wp_region_noPanic ?_
  refine wp_region_held_drew (S := fun _ => True) (by kernel_rfl) trivial (fun _ => ?_)
  generalize w.drew = wd at *
  try simp only [Act.put, List.setIfInBounds_toArray, List.set_cons_zero, List.set_cons_succ]
  refine wpAnyH_take (i := 2) (oi := { dst := some 11, op := Op.move (Operand.tmp 0), type := 3, pos := "value.go:166", after := #[], guard := none }) (v := ?_) rfl (by kernel_rfl) (by kernel_rfl) (by kernel_rfl) (fun _ _ _ h => h) (Or.inl ⟨by rfl, ?_⟩) trivial ?_
  rotate_left 1
  · intro w hSw
    try dsimp only at hSw
    go_simp
    first
      | done
      | with_reducible rfl
      | rw [if_neg (by omega)]
  try simp only [Act.put, List.setIfInBounds_toArray, List.set_cons_zero, List.set_cons_succ]
  refine wpAnyH_ready (rs := [0, 3]) (by kernel_rfl) (by simp) ?_
  refine AllReadyH.cons (o := { dst := some 9, op := Op.buildSlice 81 1 #[(0, Operand.const (Value.int IntKind.u8 10))], type := 81, pos := "value.go:166", after := #[], guard := none }) rfl (fun K hK => ?_) (AllReadyH.cons (o := { dst := some 12, op := Op.call { callee := Callee.value (Operand.func 52), args := #[Operand.tmp 11], argTypes := #[3] }, type := 9, pos := "value.go:166", after := #[{ on := 2, ground := Ground.data }], guard := none }) rfl (fun K hK => ?_) (AllReadyH.nil))
  · go_simp
    try dsimp only
    have HK805 := hide (Blk.new wd 5 #[.int .u8 10])
    have HB805 := hide ((unhide HBd).alloc (unhide HBd).size (.cells #[.int .u8 10] 5))
    refine hK.out _ _ trivial (fun _ => ?_)
    clear hK K
    try simp only [Act.put, List.setIfInBounds_toArray, List.set_cons_zero, List.set_cons_succ]
    generalize wd.alloc (.cells #[.int .u8 10] 5) = wl805 at *
    generalize wd.heap.size = bl805 at *
    refine wpAnyH_stronger (S' := fun W => Blk W bl805 5 #[.int .u8 10]) (fun _ _ => trivial) ?_
    refine wpAnyH_take (i := 1) (oi := { dst := some 10, op := Op.convert 81 9 (Operand.tmp 9), type := 9, pos := "value.go:166", after := #[{ on := 0, ground := Ground.data }], guard := none }) (v := .string ⟨([10] : List UInt8).toArray⟩) rfl (by kernel_rfl) (by kernel_rfl) (by kernel_rfl) (fun _ _ _ h => h) (Or.inl ⟨by rfl, ?_⟩) (unhide HK805) ?_
    · intro w hSw
      have hcv := conv_blk_str (n := 1) (c := 1) hSw (l := [10]) rfl rfl
      go_simp
      try with_reducible rfl
    try simp only [Act.put, List.setIfInBounds_toArray, List.set_cons_zero, List.set_cons_succ]
    refine wpAnyH_ready (rs := [3]) (by kernel_rfl) (by simp) ?_
    refine AllReadyH.cons (o := { dst := some 12, op := Op.call { callee := Callee.value (Operand.func 52), args := #[Operand.tmp 11], argTypes := #[3] }, type := 9, pos := "value.go:166", after := #[{ on := 2, ground := Ground.data }], guard := none }) rfl (fun K hK => ?_) (AllReadyH.nil)
    go_simp
    go_at_call 52
    refine (HE.out _).mono ?_
    rintro e w806 ⟨rfl, hb806⟩
    have HB806 := hide ((unhide HB805).trans (hb806.mono (unhide HB805).size))
    have HK806 := hide (Blk.below (unhide HK805) hb806 (unhide HK805).lt)
    clear hb806
    try dsimp only
    refine hK.out _ _ (unhide HK806) (fun _ => ?_)
    clear hK K
    try simp only [Act.put, List.setIfInBounds_toArray, List.set_cons_zero, List.set_cons_succ]
    refine wpAnyH_take (i := 4) (oi := { dst := some 13, op := Op.binOp BinOp.add 9 (Operand.tmp 10) (Operand.tmp 12) 9, type := 9, pos := "value.go:166", after := #[{ on := 1, ground := Ground.data }, { on := 3, ground := Ground.data }], guard := none }) (v := ?_) rfl (by kernel_rfl) (by kernel_rfl) (by kernel_rfl) (fun _ _ _ h => h) (Or.inl ⟨by rfl, ?_⟩) (unhide HK806) ?_
    rotate_left 1
    · intro w hSw
      try dsimp only at hSw
      go_simp
      first
        | done
        | with_reducible rfl
        | rw [if_neg (by omega)]
    try simp only [Act.put, List.setIfInBounds_toArray, List.set_cons_zero, List.set_cons_succ]
    refine wpAnyH_take (i := 5) (oi := { dst := some 2, op := Op.assign (Operand.tmp 13), type := 23, pos := "value.go:166", after := #[{ on := 4, ground := Ground.data }, { on := 3, ground := Ground.chain }, { on := 0, ground := Ground.phase }, { on := 1, ground := Ground.phase }, { on := 2, ground := Ground.phase }, { on := 3, ground := Ground.phase }, { on := 4, ground := Ground.phase }], guard := none }) (v := ?_) rfl (by kernel_rfl) (by kernel_rfl) (by kernel_rfl) (fun _ _ _ h => h) (Or.inl ⟨by rfl, ?_⟩) (unhide HK806) ?_
    rotate_left 1
    · intro w hSw
      try dsimp only at hSw
      go_simp
      first
        | done
        | with_reducible rfl
        | rw [if_neg (by omega)]
    try simp only [Act.put, List.setIfInBounds_toArray, List.set_cons_zero, List.set_cons_succ]
    refine wpAnyH_done (by kernel_rfl) ?_ _
    refine NoPanic.normal ?_
    have HBend := HB806
    go_wp2_with fail
    go_ret
    exact ⟨by rw [← HF.out]; rfl, unhide HBend⟩
  · go_simp
    go_at_call 52
    refine (HE.out _).mono ?_
    rintro e w807 ⟨rfl, hb807⟩
    have HB807 := hide ((unhide HBd).trans (hb807.mono (unhide HBd).size))
    clear hb807
    try dsimp only
    refine hK.out _ _ trivial (fun _ => ?_)
    clear hK K
    try simp only [Act.put, List.setIfInBounds_toArray, List.set_cons_zero, List.set_cons_succ]
    refine wpAnyH_ready (rs := [0]) (by kernel_rfl) (by simp) ?_
    refine AllReadyH.cons (o := { dst := some 9, op := Op.buildSlice 81 1 #[(0, Operand.const (Value.int IntKind.u8 10))], type := 81, pos := "value.go:166", after := #[], guard := none }) rfl (fun K hK => ?_) (AllReadyH.nil)
    go_simp
    try dsimp only
    have HK808 := hide (Blk.new w807 5 #[.int .u8 10])
    have HB808 := hide ((unhide HB807).alloc (unhide HB807).size (.cells #[.int .u8 10] 5))
    refine hK.out _ _ trivial (fun _ => ?_)
    clear hK K
    try simp only [Act.put, List.setIfInBounds_toArray, List.set_cons_zero, List.set_cons_succ]
    generalize w807.alloc (.cells #[.int .u8 10] 5) = wl808 at *
    generalize w807.heap.size = bl808 at *
    refine wpAnyH_stronger (S' := fun W => Blk W bl808 5 #[.int .u8 10]) (fun _ _ => trivial) ?_
    refine wpAnyH_take (i := 1) (oi := { dst := some 10, op := Op.convert 81 9 (Operand.tmp 9), type := 9, pos := "value.go:166", after := #[{ on := 0, ground := Ground.data }], guard := none }) (v := .string ⟨([10] : List UInt8).toArray⟩) rfl (by kernel_rfl) (by kernel_rfl) (by kernel_rfl) (fun _ _ _ h => h) (Or.inl ⟨by rfl, ?_⟩) (unhide HK808) ?_
    · intro w hSw
      have hcv := conv_blk_str (n := 1) (c := 1) hSw (l := [10]) rfl rfl
      go_simp
      try with_reducible rfl
    try simp only [Act.put, List.setIfInBounds_toArray, List.set_cons_zero, List.set_cons_succ]
    refine wpAnyH_take (i := 4) (oi := { dst := some 13, op := Op.binOp BinOp.add 9 (Operand.tmp 10) (Operand.tmp 12) 9, type := 9, pos := "value.go:166", after := #[{ on := 1, ground := Ground.data }, { on := 3, ground := Ground.data }], guard := none }) (v := ?_) rfl (by kernel_rfl) (by kernel_rfl) (by kernel_rfl) (fun _ _ _ h => h) (Or.inl ⟨by rfl, ?_⟩) (unhide HK808) ?_
    rotate_left 1
    · intro w hSw
      try dsimp only at hSw
      go_simp
      first
        | done
        | with_reducible rfl
        | rw [if_neg (by omega)]
    try simp only [Act.put, List.setIfInBounds_toArray, List.set_cons_zero, List.set_cons_succ]
    refine wpAnyH_take (i := 5) (oi := { dst := some 2, op := Op.assign (Operand.tmp 13), type := 23, pos := "value.go:166", after := #[{ on := 4, ground := Ground.data }, { on := 3, ground := Ground.chain }, { on := 0, ground := Ground.phase }, { on := 1, ground := Ground.phase }, { on := 2, ground := Ground.phase }, { on := 3, ground := Ground.phase }, { on := 4, ground := Ground.phase }], guard := none }) (v := ?_) rfl (by kernel_rfl) (by kernel_rfl) (by kernel_rfl) (fun _ _ _ h => h) (Or.inl ⟨by rfl, ?_⟩) (unhide HK808) ?_
    rotate_left 1
    · intro w hSw
      try dsimp only at hSw
      go_simp
      first
        | done
        | with_reducible rfl
        | rw [if_neg (by omega)]
    try simp only [Act.put, List.setIfInBounds_toArray, List.set_cons_zero, List.set_cons_succ]
    refine wpAnyH_done (by kernel_rfl) ?_ _
    refine NoPanic.normal ?_
    have HBend := HB808
    go_wp2_with fail
    go_ret
    exact ⟨by rw [← HF.out]; rfl, unhide HBend⟩

end Go.Proofs.YtdifpemohdnolaaGreat
