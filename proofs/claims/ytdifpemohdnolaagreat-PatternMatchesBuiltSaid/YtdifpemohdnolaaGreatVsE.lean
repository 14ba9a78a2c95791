/- The reference's eight: the eight bytes of a number; read back, they are the number. No conditions. -/
import Derived.Test.YtdifpemohdnolaaGreatVrO
import Derived.Test.YtdifpemohdnolaaGreatVsM
namespace Go.Proofs.YtdifpemohdnolaaGreat
open Go.RowKit VM
/-- byte j of a number, the least significant is byte 0 -/
def byteI (z : Int) : Nat → Int
  | 0 => IntKind.u64.wrap z % 256
  | 1 => IntKind.u64.wrap z / 256 % 256
  | 2 => IntKind.u64.wrap z / 65536 % 256
  | 3 => IntKind.u64.wrap z / 16777216 % 256
  | 4 => IntKind.u64.wrap z / 4294967296 % 256
  | 5 => IntKind.u64.wrap z / 1099511627776 % 256
  | 6 => IntKind.u64.wrap z / 281474976710656 % 256
  | _ => IntKind.u64.wrap z / 72057594037927936 % 256
def eightC (z : Int) (j : Nat) : Array Value := ((List.replicate (8 - j) (Value.int .u8 0)) ++ (List.range j).reverse.map fun i => Value.int .u8 (byteI z i)).toArray
theorem eightC_step (z : Int) (j : Nat) (h : j < 8) : (eightC z j).setIfInBounds (7 - j) (.int .u8 (byteI z j)) = eightC z (j + 1) := by
  have : j = 0 ∨ j = 1 ∨ j = 2 ∨ j = 3 ∨ j = 4 ∨ j = 5 ∨ j = 6 ∨ j = 7 := by omega
  rcases this with rfl | rfl | rfl | rfl | rfl | rfl | rfl | rfl <;> rfl
def eightL (z : Int) : List UInt8 := (List.range 8).reverse.map fun i => UInt8.ofNat (byteI z i).toNat
theorem byteI_bound (z : Int) (i : Nat) : 0 ≤ byteI z i ∧ byteI z i < 256 := by
  unfold byteI
  split <;> omega
theorem eightC_bytes (z : Int) : (eightC z 8).toList = bCells (eightL z) := by
  have h : ∀ i, Value.int .u8 (byteI z i) = .int .u8 ((UInt8.ofNat (byteI z i).toNat).toNat : Int) := fun i => by
    obtain ⟨h1, h2⟩ := byteI_bound z i
    rw [UInt8.toNat_ofNat']
    exact int_val (by omega)
  show ((List.replicate (8 - 8) (Value.int .u8 0)) ++ (List.range 8).reverse.map fun i => Value.int .u8 (byteI z i)) = _
  unfold bCells eightL
  rw [List.map_map]
  simp only [Nat.sub_self, List.replicate_zero, List.nil_append]
  exact List.map_congr_left fun i _ => h i
theorem eightL_len (z : Int) : (eightL z).length = 8 := by unfold eightL; simp
theorem natL8 (a b c d e f g h : UInt8) : natL [a, b, c, d, e, f, g, h] = ((((((a.toNat * 256 + b.toNat) * 256 + c.toNat) * 256 + d.toNat) * 256 + e.toNat) * 256 + f.toNat) * 256 + g.toNat) * 256 + h.toNat := by
  simp [natL]
theorem numL_eight (z : Int) (h1 : -9223372036854775808 ≤ z) (h2 : z ≤ 9223372036854775807) : numL (eightL z) = z := by
  have e : ∀ i, ((UInt8.ofNat (byteI z i).toNat).toNat : Int) = byteI z i := fun i => by
    obtain ⟨h1, h2⟩ := byteI_bound z i
    rw [UInt8.toNat_ofNat']; omega
  have hu : IntKind.u64.wrap z = z % 18446744073709551616 := by rw [IntKind.wrap_u64]
  have hb : 0 ≤ IntKind.u64.wrap z ∧ IntKind.u64.wrap z < 18446744073709551616 := by rw [hu]; omega
  have h8 : eightL z = [UInt8.ofNat (byteI z 7).toNat, UInt8.ofNat (byteI z 6).toNat, UInt8.ofNat (byteI z 5).toNat, UInt8.ofNat (byteI z 4).toNat, UInt8.ofNat (byteI z 3).toNat, UInt8.ofNat (byteI z 2).toNat, UInt8.ofNat (byteI z 1).toNat, UInt8.ofNat (byteI z 0).toNat] := rfl
  have e0 := e 0
  have e1 := e 1
  have e2 := e 2
  have e3 := e 3
  have e4 := e 4
  have e5 := e 5
  have e6 := e 6
  have e7 := e 7
  have hn : (natL (eightL z) : Int) = z % 18446744073709551616 := by
    rw [h8, natL8, ← hu]
    generalize (UInt8.ofNat (byteI z 0).toNat).toNat = b0 at *
    generalize (UInt8.ofNat (byteI z 1).toNat).toNat = b1 at *
    generalize (UInt8.ofNat (byteI z 2).toNat).toNat = b2 at *
    generalize (UInt8.ofNat (byteI z 3).toNat).toNat = b3 at *
    generalize (UInt8.ofNat (byteI z 4).toNat).toNat = b4 at *
    generalize (UInt8.ofNat (byteI z 5).toNat).toNat = b5 at *
    generalize (UInt8.ofNat (byteI z 6).toNat).toNat = b6 at *
    generalize (UInt8.ofNat (byteI z 7).toNat).toNat = b7 at *
    simp only [byteI] at e0 e1 e2 e3 e4 e5 e6 e7
    clear h8 e hu
    generalize IntKind.u64.wrap z = u at *
    omega
  unfold numL signed
  split <;> omega
theorem byte_infos : (Tryz.prog.info? 5).map (fun i => (i.zero, i.size, i.bytes)) = some (some (.int .u8 0), 1, 1) := by kernel_rfl
set_option maxRecDepth 100000 in
set_option maxHeartbeats 3200000 in
theorem eight_any (z : Int) (w : World) :
    Calls Tryz.prog 51 #[.int .i64 z] w fun e w' => e = .returned (.string ⟨(eightL z).toArray⟩) ∧ Below w.heap.size w w' := by
  obtain ⟨i0, hi0, hiz0, hiz1, hiz2⟩ := info_parts byte_infos
  have hmk : (Instr.makeSlice 81 (.int .i64 8) (.int .i64 8)).run Tryz.prog w = .ok (.slice (some ⟨w.heap.size, 0, none⟩) 8 8) (w.alloc (.cells (eightC z 0) 5)) := by
    rw [run_makeSlice (P := Tryz.prog) w 81 5 i0 (.int .u8 0) Tryz.underlying81 hi0 hiz0 .i64 .i64 8 8 (by decide) (by decide) (by rw [hiz1]; decide) (by rw [hiz2]; decide) (by decide), hiz1]
    have : madeCells (Value.int IntKind.u8 0).cells (Int.toNat 8 * 1) = eightC z 0 := by kernel_rfl
    rw [this]; rfl
  have HB0 := Lib.hid (Blk.new w 5 (eightC z 0))
  have HW0 := hide ((Below.refl w.heap.size w).alloc (Nat.le_refl _) (.cells (eightC z 0) 5))
  go_enter Tryz.func51, Tryz.ntmps51
  go_wp2_with fail
  go_loopw [4] (fun iv wr => ∃ j : Nat, iv = .int .i64 j ∧ j ≤ 8 ∧ Hid (Blk wr w.heap.size 5 (eightC z j)) ∧ Hid (Below w.heap.size w wr)) (fun iv _ => 8 - (intOf iv).toNat)
  case atStart => exact ⟨0, rfl, by omega, HB0.out, unhide HW0⟩
  case round =>
    obtain ⟨j, rfl, hj, hB, hW⟩ := hrel
    by_cases hj8 : j < 8
    · have hfz := hB.out.frozen (7 - j)
      have hcs : wr.cell? ⟨w.heap.size, 7 - j, none⟩ = some ((eightC z j)[7 - j]'(by simp [eightC]; omega)) := by
        rw [hB.out.cell]; exact Array.getElem?_eq_getElem _
      generalize (eightC z j)[7 - j]'(by simp [eightC]; omega) = old at hcs
      have hst : Hid (Blk (wr.setCell ⟨w.heap.size, 7 - j, none⟩ (.int .u8 (byteI z j))) w.heap.size 5 (eightC z (j + 1))) := Lib.hid (by
        have := Blk.set_ hB.out (7 - j) (.int .u8 (byteI z j))
        rwa [eightC_step z j hj8] at this)
      have hwt : Hid (Below w.heap.size w (wr.setCell ⟨w.heap.size, 7 - j, none⟩ (.int .u8 (byteI z j)))) := Lib.hid (hW.out.setCell (Nat.le_refl _) _)
      have hc : j = 0 ∨ j = 1 ∨ j = 2 ∨ j = 3 ∨ j = 4 ∨ j = 5 ∨ j = 6 ∨ j = 7 := by omega
      rcases hc with rfl | rfl | rfl | rfl | rfl | rfl | rfl | rfl
      all_goals
        go_wp2_with fail
        go_roundw
        case rel =>
          refine ⟨_, ?_, ?_, hst.out, hwt.out⟩
          · rfl
          · omega
        case measure => simp [intOf]
    · obtain rfl : j = 8 := by omega
      have hcv := run_convert_bytes_back (P := Tryz.prog) wr 81 9 5 ⟨w.heap.size, 0, none⟩ 8 (eightL z) Tryz.underlying81 Tryz.underlying5 Tryz.underlying9 (fun q hq => by
        rw [add_at, Nat.zero_add, hB.out.cell]
        have : (eightC z 8).toList[q]? = some (.int .u8 ((eightL z)[q].toNat : Int)) := by
          rw [eightC_bytes]
          unfold bCells
          rw [List.getElem?_map, List.getElem?_eq_getElem hq]; rfl
        simpa using this)
      rw [eightL_len] at hcv
      go_wp2_with fail
      go_ret
      exact ⟨rfl, hW.out⟩
end Go.Proofs.YtdifpemohdnolaaGreat
