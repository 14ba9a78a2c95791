/- value's Int, Bool. No conditions. -/
import Derived.Test.YtdifpemohdnolaaGreatVpE
namespace Go.Proofs.YtdifpemohdnolaaGreat
open Go.RowKit VM

def rowI (z : Int) (i : Nat) : List Value := .int .u8 1 :: (((List.range 8).reverse.take i).map fun j => .int .u8 (byteI z j))
theorem rowI_len (z : Int) (i : Nat) (h : i ≤ 8) : (rowI z i).length = 1 + i := by unfold rowI; simp; omega
theorem rowI_step (z : Int) (i : Nat) (h : i < 8) : rowI z i ++ [.int .u8 (byteI z (7 - i))] = rowI z (i + 1) := by
  have : i = 0 ∨ i = 1 ∨ i = 2 ∨ i = 3 ∨ i = 4 ∨ i = 5 ∨ i = 6 ∨ i = 7 := by omega
  rcases this with rfl | rfl | rfl | rfl | rfl | rfl | rfl | rfl <;> rfl
theorem rowI_all (z : Int) : rowI z 8 = bCells (1 :: eightL z) := by
  have h : ∀ i, Value.int .u8 (byteI z i) = .int .u8 ((UInt8.ofNat (byteI z i).toNat).toNat : Int) := fun i => by
    obtain ⟨h1, h2⟩ := byteI_bound z i
    rw [UInt8.toNat_ofNat']
    exact int_val (by omega)
  unfold rowI bCells eightL
  rw [List.map_cons, List.map_map]
  exact congrArg (List.cons _) (List.map_congr_left fun i _ => h i)
theorem conv_blk {w : World} {b n c : Nat} {cs : Array Value} {l : List UInt8} (h : Blk w b 5 cs) (hl : cs.toList = bCells l) (hn : l.length = n) : Sem.run Tryz.prog (convert 81 23 (.slice (some ⟨b, 0, none⟩) n c)) w = .ok (.string ⟨l.toArray⟩) w := by
  subst hn
  refine run_convert_bytes_back (P := Tryz.prog) w 81 23 5 ⟨b, 0, none⟩ c l Tryz.underlying81 Tryz.underlying5 Tryz.underlying23 (fun q hq => ?_)
  rw [add_at, Nat.zero_add, h.cell]
  have : cs.toList[q]? = some (.int .u8 (l[q].toNat : Int)) := by
    rw [hl]
    unfold bCells
    rw [List.getElem?_map, List.getElem?_eq_getElem hq]; rfl
  simpa using this
theorem one_int (z : Int) : ∀ x ∈ [Value.int .u8 z], x.oneCell' = true := by intro x hx; simp at hx; rw [hx]; rfl
theorem lit_one (w : World) : (w.alloc (.cells #[.int .u8 1] 5)).ownsRow w.heap.size 5 1 (.slice (some ⟨w.heap.size, 0, none⟩) 1 1) 1 [.int .u8 1] :=
  World.ownsRow_lit w #[.int .u8 1] 1 (Nat.le_refl _) (by unfold maxLen; omega) rfl
set_option linter.unusedSimpArgs false in
set_option maxRecDepth 100000 in
set_option maxHeartbeats 3200000 in
theorem pint_any (z : Int) (w : World) : Calls Tryz.prog 73 #[.int .i64 z] w fun e w' => e = .returned (.string (intB z)) ∧ Below w.heap.size w w' := by
  obtain ⟨i0, hi0, hiz0, hiz1, hiz2⟩ := info_parts byte_infos
  have HO0 := hide (lit_one w)
  have HB0 := hide ((Below.refl w.heap.size w).alloc (Nat.le_refl _) (.cells #[.int .u8 1] 5))
  go_enter Tryz.func73, Tryz.ntmps73
  go_wp2_with fail
  go_loopw [3, 4] (fun lv iv wr => ∃ i : Nat, iv = .int .i64 (56 - 8 * (i : Int)) ∧ i ≤ 8 ∧ Hid (wr.ownsRow w.heap.size 5 1 lv (1 + i) (rowI z i)) ∧ Hid (Below w.heap.size w wr)) (fun _ iv _ => (intOf iv + 8).toNat)
  case atStart => exact ⟨0, rfl, by omega, unhide HO0, unhide HB0⟩
  case round =>
    obtain ⟨i, rfl, hi, hO, hB⟩ := hrel
    obtain ⟨A3, c3, rfl⟩ := owns_form hO.out
    clear HO0 HB0
    by_cases hi8 : i = 8
    · subst hi8
      obtain ⟨g, cap, hsl, hbg, hg, hnc, hcell⟩ := owns_cell hO.out (by omega)
      injection hsl with h1 h2 h3
      subst h1 h3
      have hcv := run_convert_bytes_back (P := Tryz.prog) wr 81 23 5 ⟨g, 0, none⟩ c3 (1 :: eightL z) Tryz.underlying81 Tryz.underlying5 Tryz.underlying23 (fun q hq => by
        rw [add_at, Nat.zero_add]
        refine hcell q _ ?_
        rw [rowI_all]
        unfold bCells
        rw [List.getElem?_map, List.getElem?_eq_getElem hq]; rfl)
      rw [show (1 :: eightL z).length = 9 from by rw [List.length_cons, eightL_len]] at hcv
      clear hcell
      go_wp2_with fail
      go_ret
      exact ⟨rfl, hB.out⟩
    · have hcase : i = 0 ∨ i = 1 ∨ i = 2 ∨ i = 3 ∨ i = 4 ∨ i = 5 ∨ i = 6 ∨ i = 7 := by omega
      have HST := Lib.hid (rowI_step z i (by omega))
      clear hi8
      rcases hcase with rfl | rfl | rfl | rfl | rfl | rfl | rfl | rfl
      · have HO4 := hide (hO.out.alloc (.cells #[.int .u8 (byteI z (7 - 0))] 5))
        have HB4 := hide (hB.out.alloc hB.out.size (.cells #[.int .u8 (byteI z (7 - 0))] 5))
        have HN4 := hide (new_in wr 5 #[.int .u8 (byteI z (7 - 0))])
        go_wp2_with (at_builtin; refine wpList_app _ rfl _ _ 81 rfl w.heap.size 5 i0 _ 1 1 Tryz.underlying81 hi0 hiz0 hiz1 hiz2 rfl (by decide) (.slice A3 1 c3) 1 (rowI z 0) rfl (unhide HO4) (some ⟨wr.heap.size, 0, none⟩) 1 1 [.int .u8 (byteI z (7 - 0))] rfl rfl (unhide HN4) (one_int _) (by unfold maxLen; omega) (by omega) (unhide HB4).size ?_; intro v5 w5 hown5 hgrow5 _)
        have HB5 := hide (below_app (unhide HB4) (unhide HO4) hgrow5)
        have HO5 : Hid (w5.ownsRow w.heap.size 5 1 v5 (1 + (0 + 1)) (rowI z (0 + 1))) := hide (by rw [← HST.out]; exact hown5)
        clear hown5 hgrow5 HB4 HO4 HN4
        go_wp2_with fail
        go_roundw
        case rel => exact ⟨0 + 1, rfl, by omega, unhide HO5, unhide HB5⟩
        case measure => simp [intOf]
      · have HO4 := hide (hO.out.alloc (.cells #[.int .u8 (byteI z (7 - 1))] 5))
        have HB4 := hide (hB.out.alloc hB.out.size (.cells #[.int .u8 (byteI z (7 - 1))] 5))
        have HN4 := hide (new_in wr 5 #[.int .u8 (byteI z (7 - 1))])
        go_wp2_with (at_builtin; refine wpList_app _ rfl _ _ 81 rfl w.heap.size 5 i0 _ 1 1 Tryz.underlying81 hi0 hiz0 hiz1 hiz2 rfl (by decide) (.slice A3 2 c3) 2 (rowI z 1) rfl (unhide HO4) (some ⟨wr.heap.size, 0, none⟩) 1 1 [.int .u8 (byteI z (7 - 1))] rfl rfl (unhide HN4) (one_int _) (by unfold maxLen; omega) (by omega) (unhide HB4).size ?_; intro v5 w5 hown5 hgrow5 _)
        have HB5 := hide (below_app (unhide HB4) (unhide HO4) hgrow5)
        have HO5 : Hid (w5.ownsRow w.heap.size 5 1 v5 (1 + (1 + 1)) (rowI z (1 + 1))) := hide (by rw [← HST.out]; exact hown5)
        clear hown5 hgrow5 HB4 HO4 HN4
        go_wp2_with fail
        go_roundw
        case rel => exact ⟨1 + 1, rfl, by omega, unhide HO5, unhide HB5⟩
        case measure => simp [intOf]
      · have HO4 := hide (hO.out.alloc (.cells #[.int .u8 (byteI z (7 - 2))] 5))
        have HB4 := hide (hB.out.alloc hB.out.size (.cells #[.int .u8 (byteI z (7 - 2))] 5))
        have HN4 := hide (new_in wr 5 #[.int .u8 (byteI z (7 - 2))])
        go_wp2_with (at_builtin; refine wpList_app _ rfl _ _ 81 rfl w.heap.size 5 i0 _ 1 1 Tryz.underlying81 hi0 hiz0 hiz1 hiz2 rfl (by decide) (.slice A3 3 c3) 3 (rowI z 2) rfl (unhide HO4) (some ⟨wr.heap.size, 0, none⟩) 1 1 [.int .u8 (byteI z (7 - 2))] rfl rfl (unhide HN4) (one_int _) (by unfold maxLen; omega) (by omega) (unhide HB4).size ?_; intro v5 w5 hown5 hgrow5 _)
        have HB5 := hide (below_app (unhide HB4) (unhide HO4) hgrow5)
        have HO5 : Hid (w5.ownsRow w.heap.size 5 1 v5 (1 + (2 + 1)) (rowI z (2 + 1))) := hide (by rw [← HST.out]; exact hown5)
        clear hown5 hgrow5 HB4 HO4 HN4
        go_wp2_with fail
        go_roundw
        case rel => exact ⟨2 + 1, rfl, by omega, unhide HO5, unhide HB5⟩
        case measure => simp [intOf]
      · have HO4 := hide (hO.out.alloc (.cells #[.int .u8 (byteI z (7 - 3))] 5))
        have HB4 := hide (hB.out.alloc hB.out.size (.cells #[.int .u8 (byteI z (7 - 3))] 5))
        have HN4 := hide (new_in wr 5 #[.int .u8 (byteI z (7 - 3))])
        go_wp2_with (at_builtin; refine wpList_app _ rfl _ _ 81 rfl w.heap.size 5 i0 _ 1 1 Tryz.underlying81 hi0 hiz0 hiz1 hiz2 rfl (by decide) (.slice A3 4 c3) 4 (rowI z 3) rfl (unhide HO4) (some ⟨wr.heap.size, 0, none⟩) 1 1 [.int .u8 (byteI z (7 - 3))] rfl rfl (unhide HN4) (one_int _) (by unfold maxLen; omega) (by omega) (unhide HB4).size ?_; intro v5 w5 hown5 hgrow5 _)
        have HB5 := hide (below_app (unhide HB4) (unhide HO4) hgrow5)
        have HO5 : Hid (w5.ownsRow w.heap.size 5 1 v5 (1 + (3 + 1)) (rowI z (3 + 1))) := hide (by rw [← HST.out]; exact hown5)
        clear hown5 hgrow5 HB4 HO4 HN4
        go_wp2_with fail
        go_roundw
        case rel => exact ⟨3 + 1, rfl, by omega, unhide HO5, unhide HB5⟩
        case measure => simp [intOf]
      · have HO4 := hide (hO.out.alloc (.cells #[.int .u8 (byteI z (7 - 4))] 5))
        have HB4 := hide (hB.out.alloc hB.out.size (.cells #[.int .u8 (byteI z (7 - 4))] 5))
        have HN4 := hide (new_in wr 5 #[.int .u8 (byteI z (7 - 4))])
        go_wp2_with (at_builtin; refine wpList_app _ rfl _ _ 81 rfl w.heap.size 5 i0 _ 1 1 Tryz.underlying81 hi0 hiz0 hiz1 hiz2 rfl (by decide) (.slice A3 5 c3) 5 (rowI z 4) rfl (unhide HO4) (some ⟨wr.heap.size, 0, none⟩) 1 1 [.int .u8 (byteI z (7 - 4))] rfl rfl (unhide HN4) (one_int _) (by unfold maxLen; omega) (by omega) (unhide HB4).size ?_; intro v5 w5 hown5 hgrow5 _)
        have HB5 := hide (below_app (unhide HB4) (unhide HO4) hgrow5)
        have HO5 : Hid (w5.ownsRow w.heap.size 5 1 v5 (1 + (4 + 1)) (rowI z (4 + 1))) := hide (by rw [← HST.out]; exact hown5)
        clear hown5 hgrow5 HB4 HO4 HN4
        go_wp2_with fail
        go_roundw
        case rel => exact ⟨4 + 1, rfl, by omega, unhide HO5, unhide HB5⟩
        case measure => simp [intOf]
      · have HO4 := hide (hO.out.alloc (.cells #[.int .u8 (byteI z (7 - 5))] 5))
        have HB4 := hide (hB.out.alloc hB.out.size (.cells #[.int .u8 (byteI z (7 - 5))] 5))
        have HN4 := hide (new_in wr 5 #[.int .u8 (byteI z (7 - 5))])
        go_wp2_with (at_builtin; refine wpList_app _ rfl _ _ 81 rfl w.heap.size 5 i0 _ 1 1 Tryz.underlying81 hi0 hiz0 hiz1 hiz2 rfl (by decide) (.slice A3 6 c3) 6 (rowI z 5) rfl (unhide HO4) (some ⟨wr.heap.size, 0, none⟩) 1 1 [.int .u8 (byteI z (7 - 5))] rfl rfl (unhide HN4) (one_int _) (by unfold maxLen; omega) (by omega) (unhide HB4).size ?_; intro v5 w5 hown5 hgrow5 _)
        have HB5 := hide (below_app (unhide HB4) (unhide HO4) hgrow5)
        have HO5 : Hid (w5.ownsRow w.heap.size 5 1 v5 (1 + (5 + 1)) (rowI z (5 + 1))) := hide (by rw [← HST.out]; exact hown5)
        clear hown5 hgrow5 HB4 HO4 HN4
        go_wp2_with fail
        go_roundw
        case rel => exact ⟨5 + 1, rfl, by omega, unhide HO5, unhide HB5⟩
        case measure => simp [intOf]
      · have HO4 := hide (hO.out.alloc (.cells #[.int .u8 (byteI z (7 - 6))] 5))
        have HB4 := hide (hB.out.alloc hB.out.size (.cells #[.int .u8 (byteI z (7 - 6))] 5))
        have HN4 := hide (new_in wr 5 #[.int .u8 (byteI z (7 - 6))])
        go_wp2_with (at_builtin; refine wpList_app _ rfl _ _ 81 rfl w.heap.size 5 i0 _ 1 1 Tryz.underlying81 hi0 hiz0 hiz1 hiz2 rfl (by decide) (.slice A3 7 c3) 7 (rowI z 6) rfl (unhide HO4) (some ⟨wr.heap.size, 0, none⟩) 1 1 [.int .u8 (byteI z (7 - 6))] rfl rfl (unhide HN4) (one_int _) (by unfold maxLen; omega) (by omega) (unhide HB4).size ?_; intro v5 w5 hown5 hgrow5 _)
        have HB5 := hide (below_app (unhide HB4) (unhide HO4) hgrow5)
        have HO5 : Hid (w5.ownsRow w.heap.size 5 1 v5 (1 + (6 + 1)) (rowI z (6 + 1))) := hide (by rw [← HST.out]; exact hown5)
        clear hown5 hgrow5 HB4 HO4 HN4
        go_wp2_with fail
        go_roundw
        case rel => exact ⟨6 + 1, rfl, by omega, unhide HO5, unhide HB5⟩
        case measure => simp [intOf]
      · have HO4 := hide (hO.out.alloc (.cells #[.int .u8 (byteI z (7 - 7))] 5))
        have HB4 := hide (hB.out.alloc hB.out.size (.cells #[.int .u8 (byteI z (7 - 7))] 5))
        have HN4 := hide (new_in wr 5 #[.int .u8 (byteI z (7 - 7))])
        go_wp2_with (at_builtin; refine wpList_app _ rfl _ _ 81 rfl w.heap.size 5 i0 _ 1 1 Tryz.underlying81 hi0 hiz0 hiz1 hiz2 rfl (by decide) (.slice A3 8 c3) 8 (rowI z 7) rfl (unhide HO4) (some ⟨wr.heap.size, 0, none⟩) 1 1 [.int .u8 (byteI z (7 - 7))] rfl rfl (unhide HN4) (one_int _) (by unfold maxLen; omega) (by omega) (unhide HB4).size ?_; intro v5 w5 hown5 hgrow5 _)
        have HB5 := hide (below_app (unhide HB4) (unhide HO4) hgrow5)
        have HO5 : Hid (w5.ownsRow w.heap.size 5 1 v5 (1 + (7 + 1)) (rowI z (7 + 1))) := hide (by rw [← HST.out]; exact hown5)
        clear hown5 hgrow5 HB4 HO4 HN4
        go_wp2_with fail
        go_roundw
        case rel => exact ⟨7 + 1, rfl, by omega, unhide HO5, unhide HB5⟩
        case measure => simp [intOf]
set_option maxRecDepth 100000 in
set_option maxHeartbeats 3200000 in
theorem pbool_any (b : Bool) (w : World) : Calls Tryz.prog 74 #[.bool b] w fun e w' => e = .returned (.string (boolB b)) ∧ Below w.heap.size w w' := by
  cases b with
  | false =>
    have h2 := conv_val w #[.int .u8 2, .int .u8 0] [2, 0] rfl 2 2 rfl
    go_enter Tryz.func74, Tryz.ntmps74
    go_wp2_with fail
    go_ret
    exact ⟨rfl, (Below.refl _ _).alloc (Nat.le_refl _) _⟩
  | true =>
    have HB := hide (Blk.new w 5 #[.int .u8 2, .int .u8 0])
    have c1 : (w.alloc (.cells #[.int .u8 2, .int .u8 0] 5)).cell? ⟨w.heap.size, 1, none⟩ = some (.int .u8 0) := (unhide HB).cell 1
    have f1 := (unhide HB).frozen 1
    have hcv := conv_val w #[.int .u8 2, .int .u8 1] [2, 1] rfl 2 2 rfl
    go_enter Tryz.func74, Tryz.ntmps74
    go_wp2_with fail
    go_ret
    exact ⟨rfl, (Below.refl _ _).alloc (Nat.le_refl _) _⟩

end Go.Proofs.YtdifpemohdnolaaGreat
