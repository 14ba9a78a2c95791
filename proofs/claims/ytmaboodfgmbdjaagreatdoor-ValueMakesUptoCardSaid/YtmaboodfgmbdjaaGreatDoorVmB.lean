/- The program's constructors; what they make is what the reference's make; ValueMakes returns true. Conditions: at most 1048575 strings in each list, all of at most 2^48 bytes; at most 524288 if they are values. -/
import Derived.Test.YtmaboodfgmbdjaaGreatDoorVmA
import Derived.Test.YtmaboodfgmbdjaaGreatDoorVgC
import Derived.Test.YtmaboodfgmbdjaaGreatDoorEvD
namespace Go.Proofs.YtmaboodfgmbdjaaGreatDoor
open Go.RowKit VM

def rowI (z : Int) (i : Nat) : List Value := .int .u8 1 :: (((List.range 8).reverse.take i).map fun j => .int .u8 (byteI z j))
theorem rowI_len (z : Int) (i : Nat) (h : i ≤ 8) : (rowI z i).length = 1 + i := by unfold rowI; simp; omega
theorem rowI_step (z : Int) (i : Nat) (h : i < 8) : rowI z i ++ [.int .u8 (byteI z (7 - i))] = rowI z (i + 1) := by
  have : i = 0 ∨ i = 1 ∨ i = 2 ∨ i = 3 ∨ i = 4 ∨ i = 5 ∨ i = 6 ∨ i = 7 := by omega
  rcases this with rfl | rfl | rfl | rfl | rfl | rfl | rfl | rfl <;> rfl
theorem rowI_all (z : Int) : rowI z 8 = bCells (1 :: eightL z) := by
  have h : ∀ i, Value.int .u8 (byteI z i) = .int .u8 ((UInt8.ofNat (byteI z i).toNat).toNat : Int) := fun i => by
    obtain ⟨h1, h2⟩ := byteI_bound z i
    rw [UInt8.toNat_ofNat']
    exact int_val (by omega)
  unfold rowI bCells eightL
  rw [List.map_cons, List.map_map]
  exact congrArg (List.cons _) (List.map_congr_left fun i _ => h i)
theorem conv_blk {w : World} {b n c : Nat} {cs : Array Value} {l : List UInt8} (h : Blk w b 5 cs) (hl : cs.toList = bCells l) (hn : l.length = n) : Sem.run Tryz.prog (convert 55 27 (.slice (some ⟨b, 0, none⟩) n c)) w = .ok (.string ⟨l.toArray⟩) w := by
  subst hn
  refine run_convert_bytes_back (P := Tryz.prog) w 55 27 5 ⟨b, 0, none⟩ c l Tryz.underlying55 Tryz.underlying5 Tryz.underlying27 (fun q hq => ?_)
  rw [add_at, Nat.zero_add, h.cell]
  have : cs.toList[q]? = some (.int .u8 (l[q].toNat : Int)) := by
    rw [hl]
    unfold bCells
    rw [List.getElem?_map, List.getElem?_eq_getElem hq]; rfl
  simpa using this
theorem one_int (z : Int) : ∀ x ∈ [Value.int .u8 z], x.oneCell' = true := by intro x hx; simp at hx; rw [hx]; rfl
theorem lit_one (w : World) : (w.alloc (.cells #[.int .u8 1] 5)).ownsRow w.heap.size 5 1 (.slice (some ⟨w.heap.size, 0, none⟩) 1 1) 1 [.int .u8 1] :=
  World.ownsRow_lit w #[.int .u8 1] 1 (Nat.le_refl _) (by unfold maxLen; omega) rfl
set_option linter.unusedSimpArgs false in
set_option maxRecDepth 100000 in
set_option maxHeartbeats 3200000 in
theorem pint_any (z : Int) (w : World) : Calls Tryz.prog 12 #[.int .i64 z] w fun e w' => e = .returned (.string (intB z)) ∧ Below w.heap.size w w' := by
  obtain ⟨i0, hi0, hiz0, hiz1, hiz2⟩ := info_parts byte_infos
  have HO0 := hide (lit_one w)
  have HB0 := hide ((Below.refl w.heap.size w).alloc (Nat.le_refl _) (.cells #[.int .u8 1] 5))
  go_enter Tryz.func12, Tryz.ntmps12
  go_wp2_with fail
  go_loopw [3, 4] (fun lv iv wr => ∃ i : Nat, iv = .int .i64 (56 - 8 * (i : Int)) ∧ i ≤ 8 ∧ Hid (wr.ownsRow w.heap.size 5 1 lv (1 + i) (rowI z i)) ∧ Hid (Below w.heap.size w wr)) (fun _ iv _ => (intOf iv + 8).toNat)
  case atStart => exact ⟨0, rfl, by omega, unhide HO0, unhide HB0⟩
  case round =>
    obtain ⟨i, rfl, hi, hO, hB⟩ := hrel
    obtain ⟨A3, c3, rfl⟩ := owns_form hO.out
    clear HO0 HB0
    by_cases hi8 : i = 8
    · subst hi8
      obtain ⟨g, cap, hsl, hbg, hg, hnc, hcell⟩ := owns_cell hO.out (by omega)
      injection hsl with h1 h2 h3
      subst h1 h3
      have hcv := run_convert_bytes_back (P := Tryz.prog) wr 55 27 5 ⟨g, 0, none⟩ c3 (1 :: eightL z) Tryz.underlying55 Tryz.underlying5 Tryz.underlying27 (fun q hq => by
        rw [add_at, Nat.zero_add]
        refine hcell q _ ?_
        rw [rowI_all]
        unfold bCells
        rw [List.getElem?_map, List.getElem?_eq_getElem hq]; rfl)
      rw [show (1 :: eightL z).length = 9 from by rw [List.length_cons, eightL_len]] at hcv
      clear hcell
      go_wp2_with fail
      go_ret
      exact ⟨rfl, hB.out⟩
    · have hcase : i = 0 ∨ i = 1 ∨ i = 2 ∨ i = 3 ∨ i = 4 ∨ i = 5 ∨ i = 6 ∨ i = 7 := by omega
      have HST := Lib.hid (rowI_step z i (by omega))
      clear hi8
      rcases hcase with rfl | rfl | rfl | rfl | rfl | rfl | rfl | rfl
      · have HO4 := hide (hO.out.alloc (.cells #[.int .u8 (byteI z (7 - 0))] 5))
        have HB4 := hide (hB.out.alloc hB.out.size (.cells #[.int .u8 (byteI z (7 - 0))] 5))
        have HN4 := hide (new_in wr 5 #[.int .u8 (byteI z (7 - 0))])
        go_wp2_with (at_builtin; refine wpList_app _ rfl _ _ 55 rfl w.heap.size 5 i0 _ 1 1 Tryz.underlying55 hi0 hiz0 hiz1 hiz2 rfl (by decide) (.slice A3 1 c3) 1 (rowI z 0) rfl (unhide HO4) (some ⟨wr.heap.size, 0, none⟩) 1 1 [.int .u8 (byteI z (7 - 0))] rfl rfl (unhide HN4) (one_int _) (by unfold maxLen; omega) (by omega) (unhide HB4).size ?_; intro v5 w5 hown5 hgrow5 _)
        have HB5 := hide (below_app (unhide HB4) (unhide HO4) hgrow5)
        have HO5 : Hid (w5.ownsRow w.heap.size 5 1 v5 (1 + (0 + 1)) (rowI z (0 + 1))) := hide (by rw [← HST.out]; exact hown5)
        clear hown5 hgrow5 HB4 HO4 HN4
        go_wp2_with fail
        go_roundw
        case rel => exact ⟨0 + 1, rfl, by omega, unhide HO5, unhide HB5⟩
        case measure => simp [intOf]
      · have HO4 := hide (hO.out.alloc (.cells #[.int .u8 (byteI z (7 - 1))] 5))
        have HB4 := hide (hB.out.alloc hB.out.size (.cells #[.int .u8 (byteI z (7 - 1))] 5))
        have HN4 := hide (new_in wr 5 #[.int .u8 (byteI z (7 - 1))])
        go_wp2_with (at_builtin; refine wpList_app _ rfl _ _ 55 rfl w.heap.size 5 i0 _ 1 1 Tryz.underlying55 hi0 hiz0 hiz1 hiz2 rfl (by decide) (.slice A3 2 c3) 2 (rowI z 1) rfl (unhide HO4) (some ⟨wr.heap.size, 0, none⟩) 1 1 [.int .u8 (byteI z (7 - 1))] rfl rfl (unhide HN4) (one_int _) (by unfold maxLen; omega) (by omega) (unhide HB4).size ?_; intro v5 w5 hown5 hgrow5 _)
        have HB5 := hide (below_app (unhide HB4) (unhide HO4) hgrow5)
        have HO5 : Hid (w5.ownsRow w.heap.size 5 1 v5 (1 + (1 + 1)) (rowI z (1 + 1))) := hide (by rw [← HST.out]; exact hown5)
        clear hown5 hgrow5 HB4 HO4 HN4
        go_wp2_with fail
        go_roundw
        case rel => exact ⟨1 + 1, rfl, by omega, unhide HO5, unhide HB5⟩
        case measure => simp [intOf]
      · have HO4 := hide (hO.out.alloc (.cells #[.int .u8 (byteI z (7 - 2))] 5))
        have HB4 := hide (hB.out.alloc hB.out.size (.cells #[.int .u8 (byteI z (7 - 2))] 5))
        have HN4 := hide (new_in wr 5 #[.int .u8 (byteI z (7 - 2))])
        go_wp2_with (at_builtin; refine wpList_app _ rfl _ _ 55 rfl w.heap.size 5 i0 _ 1 1 Tryz.underlying55 hi0 hiz0 hiz1 hiz2 rfl (by decide) (.slice A3 3 c3) 3 (rowI z 2) rfl (unhide HO4) (some ⟨wr.heap.size, 0, none⟩) 1 1 [.int .u8 (byteI z (7 - 2))] rfl rfl (unhide HN4) (one_int _) (by unfold maxLen; omega) (by omega) (unhide HB4).size ?_; intro v5 w5 hown5 hgrow5 _)
        have HB5 := hide (below_app (unhide HB4) (unhide HO4) hgrow5)
        have HO5 : Hid (w5.ownsRow w.heap.size 5 1 v5 (1 + (2 + 1)) (rowI z (2 + 1))) := hide (by rw [← HST.out]; exact hown5)
        clear hown5 hgrow5 HB4 HO4 HN4
        go_wp2_with fail
        go_roundw
        case rel => exact ⟨2 + 1, rfl, by omega, unhide HO5, unhide HB5⟩
        case measure => simp [intOf]
      · have HO4 := hide (hO.out.alloc (.cells #[.int .u8 (byteI z (7 - 3))] 5))
        have HB4 := hide (hB.out.alloc hB.out.size (.cells #[.int .u8 (byteI z (7 - 3))] 5))
        have HN4 := hide (new_in wr 5 #[.int .u8 (byteI z (7 - 3))])
        go_wp2_with (at_builtin; refine wpList_app _ rfl _ _ 55 rfl w.heap.size 5 i0 _ 1 1 Tryz.underlying55 hi0 hiz0 hiz1 hiz2 rfl (by decide) (.slice A3 4 c3) 4 (rowI z 3) rfl (unhide HO4) (some ⟨wr.heap.size, 0, none⟩) 1 1 [.int .u8 (byteI z (7 - 3))] rfl rfl (unhide HN4) (one_int _) (by unfold maxLen; omega) (by omega) (unhide HB4).size ?_; intro v5 w5 hown5 hgrow5 _)
        have HB5 := hide (below_app (unhide HB4) (unhide HO4) hgrow5)
        have HO5 : Hid (w5.ownsRow w.heap.size 5 1 v5 (1 + (3 + 1)) (rowI z (3 + 1))) := hide (by rw [← HST.out]; exact hown5)
        clear hown5 hgrow5 HB4 HO4 HN4
        go_wp2_with fail
        go_roundw
        case rel => exact ⟨3 + 1, rfl, by omega, unhide HO5, unhide HB5⟩
        case measure => simp [intOf]
      · have HO4 := hide (hO.out.alloc (.cells #[.int .u8 (byteI z (7 - 4))] 5))
        have HB4 := hide (hB.out.alloc hB.out.size (.cells #[.int .u8 (byteI z (7 - 4))] 5))
        have HN4 := hide (new_in wr 5 #[.int .u8 (byteI z (7 - 4))])
        go_wp2_with (at_builtin; refine wpList_app _ rfl _ _ 55 rfl w.heap.size 5 i0 _ 1 1 Tryz.underlying55 hi0 hiz0 hiz1 hiz2 rfl (by decide) (.slice A3 5 c3) 5 (rowI z 4) rfl (unhide HO4) (some ⟨wr.heap.size, 0, none⟩) 1 1 [.int .u8 (byteI z (7 - 4))] rfl rfl (unhide HN4) (one_int _) (by unfold maxLen; omega) (by omega) (unhide HB4).size ?_; intro v5 w5 hown5 hgrow5 _)
        have HB5 := hide (below_app (unhide HB4) (unhide HO4) hgrow5)
        have HO5 : Hid (w5.ownsRow w.heap.size 5 1 v5 (1 + (4 + 1)) (rowI z (4 + 1))) := hide (by rw [← HST.out]; exact hown5)
        clear hown5 hgrow5 HB4 HO4 HN4
        go_wp2_with fail
        go_roundw
        case rel => exact ⟨4 + 1, rfl, by omega, unhide HO5, unhide HB5⟩
        case measure => simp [intOf]
      · have HO4 := hide (hO.out.alloc (.cells #[.int .u8 (byteI z (7 - 5))] 5))
        have HB4 := hide (hB.out.alloc hB.out.size (.cells #[.int .u8 (byteI z (7 - 5))] 5))
        have HN4 := hide (new_in wr 5 #[.int .u8 (byteI z (7 - 5))])
        go_wp2_with (at_builtin; refine wpList_app _ rfl _ _ 55 rfl w.heap.size 5 i0 _ 1 1 Tryz.underlying55 hi0 hiz0 hiz1 hiz2 rfl (by decide) (.slice A3 6 c3) 6 (rowI z 5) rfl (unhide HO4) (some ⟨wr.heap.size, 0, none⟩) 1 1 [.int .u8 (byteI z (7 - 5))] rfl rfl (unhide HN4) (one_int _) (by unfold maxLen; omega) (by omega) (unhide HB4).size ?_; intro v5 w5 hown5 hgrow5 _)
        have HB5 := hide (below_app (unhide HB4) (unhide HO4) hgrow5)
        have HO5 : Hid (w5.ownsRow w.heap.size 5 1 v5 (1 + (5 + 1)) (rowI z (5 + 1))) := hide (by rw [← HST.out]; exact hown5)
        clear hown5 hgrow5 HB4 HO4 HN4
        go_wp2_with fail
        go_roundw
        case rel => exact ⟨5 + 1, rfl, by omega, unhide HO5, unhide HB5⟩
        case measure => simp [intOf]
      · have HO4 := hide (hO.out.alloc (.cells #[.int .u8 (byteI z (7 - 6))] 5))
        have HB4 := hide (hB.out.alloc hB.out.size (.cells #[.int .u8 (byteI z (7 - 6))] 5))
        have HN4 := hide (new_in wr 5 #[.int .u8 (byteI z (7 - 6))])
        go_wp2_with (at_builtin; refine wpList_app _ rfl _ _ 55 rfl w.heap.size 5 i0 _ 1 1 Tryz.underlying55 hi0 hiz0 hiz1 hiz2 rfl (by decide) (.slice A3 7 c3) 7 (rowI z 6) rfl (unhide HO4) (some ⟨wr.heap.size, 0, none⟩) 1 1 [.int .u8 (byteI z (7 - 6))] rfl rfl (unhide HN4) (one_int _) (by unfold maxLen; omega) (by omega) (unhide HB4).size ?_; intro v5 w5 hown5 hgrow5 _)
        have HB5 := hide (below_app (unhide HB4) (unhide HO4) hgrow5)
        have HO5 : Hid (w5.ownsRow w.heap.size 5 1 v5 (1 + (6 + 1)) (rowI z (6 + 1))) := hide (by rw [← HST.out]; exact hown5)
        clear hown5 hgrow5 HB4 HO4 HN4
        go_wp2_with fail
        go_roundw
        case rel => exact ⟨6 + 1, rfl, by omega, unhide HO5, unhide HB5⟩
        case measure => simp [intOf]
      · have HO4 := hide (hO.out.alloc (.cells #[.int .u8 (byteI z (7 - 7))] 5))
        have HB4 := hide (hB.out.alloc hB.out.size (.cells #[.int .u8 (byteI z (7 - 7))] 5))
        have HN4 := hide (new_in wr 5 #[.int .u8 (byteI z (7 - 7))])
        go_wp2_with (at_builtin; refine wpList_app _ rfl _ _ 55 rfl w.heap.size 5 i0 _ 1 1 Tryz.underlying55 hi0 hiz0 hiz1 hiz2 rfl (by decide) (.slice A3 8 c3) 8 (rowI z 7) rfl (unhide HO4) (some ⟨wr.heap.size, 0, none⟩) 1 1 [.int .u8 (byteI z (7 - 7))] rfl rfl (unhide HN4) (one_int _) (by unfold maxLen; omega) (by omega) (unhide HB4).size ?_; intro v5 w5 hown5 hgrow5 _)
        have HB5 := hide (below_app (unhide HB4) (unhide HO4) hgrow5)
        have HO5 : Hid (w5.ownsRow w.heap.size 5 1 v5 (1 + (7 + 1)) (rowI z (7 + 1))) := hide (by rw [← HST.out]; exact hown5)
        clear hown5 hgrow5 HB4 HO4 HN4
        go_wp2_with fail
        go_roundw
        case rel => exact ⟨7 + 1, rfl, by omega, unhide HO5, unhide HB5⟩
        case measure => simp [intOf]
set_option maxRecDepth 100000 in
set_option maxHeartbeats 3200000 in
theorem pbool_any (b : Bool) (w : World) : Calls Tryz.prog 14 #[.bool b] w fun e w' => e = .returned (.string (boolB b)) ∧ Below w.heap.size w w' := by
  cases b with
  | false =>
    have h2 := conv_val w #[.int .u8 2, .int .u8 0] [2, 0] rfl 2 2 rfl
    go_enter Tryz.func14, Tryz.ntmps14
    go_wp2_with fail
    go_ret
    exact ⟨rfl, (Below.refl _ _).alloc (Nat.le_refl _) _⟩
  | true =>
    have HB := hide (Blk.new w 5 #[.int .u8 2, .int .u8 0])
    have c1 : (w.alloc (.cells #[.int .u8 2, .int .u8 0] 5)).cell? ⟨w.heap.size, 1, none⟩ = some (.int .u8 0) := (unhide HB).cell 1
    have f1 := (unhide HB).frozen 1
    have hcv := conv_val w #[.int .u8 2, .int .u8 1] [2, 1] rfl 2 2 rfl
    go_enter Tryz.func14, Tryz.ntmps14
    go_wp2_with fail
    go_ret
    exact ⟨rfl, (Below.refl _ _).alloc (Nat.le_refl _) _⟩

end Go.Proofs.YtmaboodfgmbdjaaGreatDoor
namespace Go.Proofs.YtmaboodfgmbdjaaGreatDoor
open Go.RowKit VM

set_option linter.unusedSimpArgs false in
set_option maxRecDepth 100000 in
set_option maxHeartbeats 3200000 in
theorem pnameI_any (z : Int) (w : World) : Calls Tryz.prog 16 #[.int .i64 z] w fun e w' => e = .returned (.string (nameI z)) ∧ Below w.heap.size w w' := by
  by_cases h : 0 ≤ z ∧ z ≤ 65535
  · have h1 := pname_any z.toNat (by omega) w
    rw [show ((z.toNat : Nat) : Int) = z by omega] at h1
    unfold nameI
    rw [if_pos h]
    exact h1
  · have HM : Hid (nameI z = ⟨#[]⟩) := Lib.hid (by unfold nameI; rw [if_neg h])
    by_cases h0 : z < 0
    · clear h
      go_enter Tryz.func16, Tryz.ntmps16
      go_wp2_with fail
      go_ret
      exact ⟨by rw [HM.out]; rfl, Below.refl _ _⟩
    · have h2 : 65535 < z := by omega
      have h3 : 0 ≤ z := by omega
      clear h h0
      go_enter Tryz.func16, Tryz.ntmps16
      go_wp2_with fail
      go_ret
      exact ⟨by rw [HM.out]; rfl, Below.refl _ _⟩
/-- the tuple of some strings, or the empty string -/
def tupP (ps : List ByteArray) : ByteArray := if 2 ≤ ps.length ∧ ps.length ≤ 8 then mkP 3 ps else ⟨#[]⟩
set_option linter.unusedSimpArgs false in
set_option maxRecDepth 100000 in
set_option maxHeartbeats 3200000 in
theorem ptuple_any (ps : List ByteArray) (A : Option Addr) (n c : Nat) (w : World) (hn : n = ps.length) (hn1 : n ≤ 1048576) (hs : ∀ s ∈ ps, s.size ≤ 281474976710656) (hr : InC w A (ps.map Value.string)) :
    Calls Tryz.prog 18 #[.slice A n c] w fun e w' => e = .returned (.string (tupP ps)) ∧ Below w.heap.size w w' := by
  have HC := hide (pcomp_any 3 ps A n c w hn hn1 hs hr)
  have HM : Hid (tupP ps = if 2 ≤ n ∧ n ≤ 8 then mkP 3 ps else ⟨#[]⟩) := Lib.hid (by unfold tupP; rw [hn])
  generalize mkP 3 ps = m at *
  generalize tupP ps = tp at *
  clear hn hs hr
  by_cases h1 : n < 2
  · have HM2 : Hid (tp = ⟨#[]⟩) := Lib.hid (by rw [HM.out, if_neg (fun q => by omega)])
    go_enter Tryz.func18, Tryz.ntmps18
    go_wp2_with fail
    go_ret
    exact ⟨by rw [HM2.out]; rfl, Below.refl _ _⟩
  · by_cases h2 : 8 < n
    · have HM2 : Hid (tp = ⟨#[]⟩) := Lib.hid (by rw [HM.out, if_neg (fun q => by omega)])
      go_enter Tryz.func18, Tryz.ntmps18
      go_wp2_with fail
      go_ret
      exact ⟨by rw [HM2.out]; rfl, Below.refl _ _⟩
    · have HM2 : Hid (tp = m) := Lib.hid (by rw [HM.out, if_pos (by omega)])
      go_enter Tryz.func18, Tryz.ntmps18
      go_wp2_with fail
      refine (unhide HC).mono ?_
      rintro e w3 ⟨rfl, hb3⟩
      have HB3 := hide hb3
      clear hb3
      go_wp2_with fail
      go_ret
      exact ⟨by rw [HM2.out]; rfl, unhide HB3⟩
def dotP (z : Int) (ps : List ByteArray) : ByteArray := if ps.length ≤ 8 then mkP 7 (nameI z :: ps) else ⟨#[]⟩
set_option linter.unusedSimpArgs false in
set_option maxRecDepth 100000 in
set_option maxHeartbeats 3200000 in
theorem pdotI_any (z : Int) (ps : List ByteArray) (A : Option Addr) (n c : Nat) (w : World) (hn : n = ps.length) (hn1 : n ≤ 1048575) (hs : ∀ s ∈ ps, s.size ≤ 281474976710656) (hr : InC w A (ps.map Value.string)) :
    Calls Tryz.prog 25 #[.int .i64 z, .slice A n c] w fun e w' => e = .returned (.string (dotP z ps)) ∧ Below w.heap.size w w' := by
  have HNM := Lib.hid (fun w => pnameI_any z w)
  have HH := Lib.hid (fun w hr => headed_any (nameI z) ps A n c w hn (by omega) hr)
  have HC := Lib.hid (fun w B cb hr => pcomp_any 7 (nameI z :: ps) B (1 + n) cb w (by rw [List.length_cons]; omega) (by omega) (fun s h => by
    rcases List.mem_cons.1 h with rfl | h
    · have := nameI_size z; omega
    · exact hs s h) hr)
  have HR := hide hr
  have HM : Hid (dotP z ps = if n ≤ 8 then mkP 7 (nameI z :: ps) else ⟨#[]⟩) := Lib.hid (by unfold dotP; rw [hn])
  generalize mkP 7 (nameI z :: ps) = m at *
  generalize dotP z ps = dp at *
  generalize nameI z = s0 at *
  clear hn hs hr
  by_cases hb0 : 8 < n
  · have HM2 : Hid (dp = ⟨#[]⟩) := Lib.hid (by rw [HM.out, if_neg (fun q => by omega)])
    go_enter Tryz.func25, Tryz.ntmps25
    go_wp2_with fail
    go_ret
    exact ⟨by rw [HM2.out]; rfl, Below.refl _ _⟩
  have HM2 : Hid (dp = m) := Lib.hid (by rw [HM.out, if_pos (by omega)])
  go_enter Tryz.func25, Tryz.ntmps25
  go_wp2_with fail
  refine (HNM.out _).mono ?_
  rintro e w3 ⟨rfl, hb3⟩
  have HB3 := hide hb3
  have HR3 := hide ((unhide HR).below hb3)
  clear hb3
  go_wp2_with fail
  refine (HH.out _ (unhide HR3)).mono ?_
  rintro e w4 ⟨B, cb, rfl, hI4, hb4⟩
  have HB4 := hide ((unhide HB3).trans (hb4.mono (unhide HB3).size))
  have HI4 := hide hI4
  clear hI4 hb4
  go_wp2_with fail
  refine (HC.out _ _ _ (unhide HI4)).mono ?_
  rintro e w5 ⟨rfl, hb5⟩
  have HB5 := hide ((unhide HB4).trans (hb5.mono (unhide HB4).size))
  clear hb5
  go_wp2_with fail
  go_ret
  exact ⟨by rw [HM2.out]; rfl, unhide HB5⟩
def funP (z : Int) (ps : List ByteArray) : ByteArray := if 0 ≤ z ∧ z ≤ 65535 ∧ ps.length ≤ 32 then mkP 8 (intB z :: ps) else ⟨#[]⟩
set_option linter.unusedSimpArgs false in
set_option maxRecDepth 100000 in
set_option maxHeartbeats 3200000 in
theorem pfunI_any (z : Int) (ps : List ByteArray) (A : Option Addr) (n c : Nat) (w : World) (hn : n = ps.length) (hn1 : n ≤ 1048575) (hs : ∀ s ∈ ps, s.size ≤ 281474976710656) (hr : InC w A (ps.map Value.string)) :
    Calls Tryz.prog 27 #[.int .i64 z, .slice A n c] w fun e w' => e = .returned (.string (funP z ps)) ∧ Below w.heap.size w w' := by
  have HNM := Lib.hid (fun w => pint_any z w)
  have HH := Lib.hid (fun w hr => headed_any (intB z) ps A n c w hn (by omega) hr)
  have HC := Lib.hid (fun w B cb hr => pcomp_any 8 (intB z :: ps) B (1 + n) cb w (by rw [List.length_cons]; omega) (by omega) (fun s h => by
    rcases List.mem_cons.1 h with rfl | h
    · have := intB_size z; omega
    · exact hs s h) hr)
  have HR := hide hr
  have HM : Hid (funP z ps = if 0 ≤ z ∧ z ≤ 65535 ∧ n ≤ 32 then mkP 8 (intB z :: ps) else ⟨#[]⟩) := Lib.hid (by unfold funP; rw [hn])
  generalize mkP 8 (intB z :: ps) = m at *
  generalize funP z ps = dp at *
  generalize intB z = s0 at *
  clear hn hs hr
  by_cases hb0 : z < 0
  · have HM2 : Hid (dp = ⟨#[]⟩) := Lib.hid (by rw [HM.out, if_neg (fun q => by omega)])
    go_enter Tryz.func27, Tryz.ntmps27
    go_wp2_with fail
    go_ret
    exact ⟨by rw [HM2.out]; rfl, Below.refl _ _⟩
  by_cases hb1 : 65535 < z
  · have HM2 : Hid (dp = ⟨#[]⟩) := Lib.hid (by rw [HM.out, if_neg (fun q => by omega)])
    go_enter Tryz.func27, Tryz.ntmps27
    go_wp2_with fail
    go_ret
    exact ⟨by rw [HM2.out]; rfl, Below.refl _ _⟩
  by_cases hb2 : 32 < n
  · have HM2 : Hid (dp = ⟨#[]⟩) := Lib.hid (by rw [HM.out, if_neg (fun q => by omega)])
    go_enter Tryz.func27, Tryz.ntmps27
    go_wp2_with fail
    go_ret
    exact ⟨by rw [HM2.out]; rfl, Below.refl _ _⟩
  have HM2 : Hid (dp = m) := Lib.hid (by rw [HM.out, if_pos (by omega)])
  go_enter Tryz.func27, Tryz.ntmps27
  go_wp2_with fail
  refine (HNM.out _).mono ?_
  rintro e w3 ⟨rfl, hb3⟩
  have HB3 := hide hb3
  have HR3 := hide ((unhide HR).below hb3)
  clear hb3
  go_wp2_with fail
  refine (HH.out _ (unhide HR3)).mono ?_
  rintro e w4 ⟨B, cb, rfl, hI4, hb4⟩
  have HB4 := hide ((unhide HB3).trans (hb4.mono (unhide HB3).size))
  have HI4 := hide hI4
  clear hI4 hb4
  go_wp2_with fail
  refine (HC.out _ _ _ (unhide HI4)).mono ?_
  rintro e w5 ⟨rfl, hb5⟩
  have HB5 := hide ((unhide HB4).trans (hb5.mono (unhide HB4).size))
  clear hb5
  go_wp2_with fail
  go_ret
  exact ⟨by rw [HM2.out]; rfl, unhide HB5⟩
def procP (z : Int) (ps : List ByteArray) : ByteArray := if 1 ≤ z ∧ z ≤ 21 then mkP 9 (intB z :: ps) else ⟨#[]⟩
set_option linter.unusedSimpArgs false in
set_option maxRecDepth 100000 in
set_option maxHeartbeats 3200000 in
theorem pprocI_any (z : Int) (ps : List ByteArray) (A : Option Addr) (n c : Nat) (w : World) (hn : n = ps.length) (hn1 : n ≤ 1048575) (hs : ∀ s ∈ ps, s.size ≤ 281474976710656) (hr : InC w A (ps.map Value.string)) :
    Calls Tryz.prog 29 #[.int .i64 z, .slice A n c] w fun e w' => e = .returned (.string (procP z ps)) ∧ Below w.heap.size w w' := by
  have HNM := Lib.hid (fun w => pint_any z w)
  have HH := Lib.hid (fun w hr => headed_any (intB z) ps A n c w hn (by omega) hr)
  have HC := Lib.hid (fun w B cb hr => pcomp_any 9 (intB z :: ps) B (1 + n) cb w (by rw [List.length_cons]; omega) (by omega) (fun s h => by
    rcases List.mem_cons.1 h with rfl | h
    · have := intB_size z; omega
    · exact hs s h) hr)
  have HR := hide hr
  have HM : Hid (procP z ps = if 1 ≤ z ∧ z ≤ 21 then mkP 9 (intB z :: ps) else ⟨#[]⟩) := Lib.hid (by unfold procP; rfl)
  generalize mkP 9 (intB z :: ps) = m at *
  generalize procP z ps = dp at *
  generalize intB z = s0 at *
  clear hn hs hr
  by_cases hb0 : z < 1
  · have HM2 : Hid (dp = ⟨#[]⟩) := Lib.hid (by rw [HM.out, if_neg (fun q => by omega)])
    go_enter Tryz.func29, Tryz.ntmps29
    go_wp2_with fail
    go_ret
    exact ⟨by rw [HM2.out]; rfl, Below.refl _ _⟩
  by_cases hb1 : 21 < z
  · have HM2 : Hid (dp = ⟨#[]⟩) := Lib.hid (by rw [HM.out, if_neg (fun q => by omega)])
    go_enter Tryz.func29, Tryz.ntmps29
    go_wp2_with fail
    go_ret
    exact ⟨by rw [HM2.out]; rfl, Below.refl _ _⟩
  have HM2 : Hid (dp = m) := Lib.hid (by rw [HM.out, if_pos (by omega)])
  go_enter Tryz.func29, Tryz.ntmps29
  go_wp2_with fail
  refine (HNM.out _).mono ?_
  rintro e w3 ⟨rfl, hb3⟩
  have HB3 := hide hb3
  have HR3 := hide ((unhide HR).below hb3)
  clear hb3
  go_wp2_with fail
  refine (HH.out _ (unhide HR3)).mono ?_
  rintro e w4 ⟨B, cb, rfl, hI4, hb4⟩
  have HB4 := hide ((unhide HB3).trans (hb4.mono (unhide HB3).size))
  have HI4 := hide hI4
  clear hI4 hb4
  go_wp2_with fail
  refine (HC.out _ _ _ (unhide HI4)).mono ?_
  rintro e w5 ⟨rfl, hb5⟩
  have HB5 := hide ((unhide HB4).trans (hb5.mono (unhide HB4).size))
  clear hb5
  go_wp2_with fail
  go_ret
  exact ⟨by rw [HM2.out]; rfl, unhide HB5⟩

end Go.Proofs.YtmaboodfgmbdjaaGreatDoor
namespace Go.Proofs.YtmaboodfgmbdjaaGreatDoor
open VM

theorem encs_inj {a b : List V} (ha : ∀ v ∈ a, wf 32 v = true) (hb : ∀ v ∈ b, wf 32 v = true) (hl : a.length = b.length) (h : encs a = encs b) : a = b := by
  have h1 := decs_of (f := dec 32) a [] (fun v hv r => dec_of 32 v r (ha v hv))
  have h2 := decs_of (f := dec 32) b [] (fun v hv r => dec_of 32 v r (hb v hv))
  rw [hl, h, h2] at h1
  exact (Prod.mk.inj (Option.some.inj h1)).1.symm
theorem mkM_parts {k : UInt8} (hk : isComp k = true) {ps : List ByteArray} (h : ∀ s ∈ ps, valB 32 s = true) (hv : valB 32 (encB k ps) = true) : (∀ s ∈ ps, valB 31 s = true) ∧ parted (ord 31) k (ps.map treeB) = true ∧ 3 + totB ps ≤ 131072 := by
  obtain ⟨hz, v, h2, h3⟩ := valB_iff.1 hv
  rw [encB_size] at hz
  have h4 := tot_two h
  have hd : dec 32 (bs (encB k ps)) = some (v, []) := by
    rw [h2]
    have := dec_of 32 v [] h3
    rwa [List.append_nil] at this
  obtain ⟨l, rfl, hl⟩ := encB_read hk (by omega) hd
  obtain ⟨t1, t2⟩ := trees_bs (Nat.le_refl _) h
  have h5 := bs_encB (k := k) t1
  rw [h2] at h5
  unfold wf at h3
  simp only [Bool.and_eq_true, decide_eq_true_eq] at h3
  obtain ⟨_, _, h7, h8⟩ := h3
  have hlt : l.length = (ps.map treeB).length := by rw [hl, List.length_map]
  have h6 : encs l = encs (ps.map treeB) := by
    have h9 : k :: UInt8.ofNat (l.length / 256) :: UInt8.ofNat l.length :: encs l = k :: UInt8.ofNat ((ps.map treeB).length / 256) :: UInt8.ofNat (ps.map treeB).length :: encs (ps.map treeB) := h5
    exact (List.cons.inj (List.cons.inj (List.cons.inj h9).2).2).2
  have he : l = ps.map treeB := encs_inj (fun v hv => wf_le (by decide) (List.all_eq_true.1 h7 v hv)) (fun v hv => List.all_eq_true.1 t2 v hv) hlt h6
  rw [he] at h7 h8
  refine ⟨fun s hs => ?_, h8, by omega⟩
  have q := tree_val (Nat.le_refl _) (h s hs)
  exact valB_iff.2 ⟨q.2.2, treeB s, q.2.1, List.all_eq_true.1 h7 _ (List.mem_map_of_mem hs)⟩
theorem mk_same {k : UInt8} (hk : isComp k = true) {ps : List ByteArray} (hp : (∀ s ∈ ps, valB 31 s = true) → parted (ord 31) k (ps.map treeB) = true) : mkP k ps = mkM k ps := by
  by_cases h : (∀ s ∈ ps, valB 31 s = true) ∧ 3 + totB ps ≤ 131072
  · rw [mkP_good (Nat.le_refl _) h.1 h.2]
    have := enc_comp_val (d := 31) (Nat.le_refl _) h.1 hk (hp h.1) h.2
    rw [mkM_val (fun s hs => valB_le (by decide) (h.1 s hs)), if_pos this.1]
  · have hP : mkP k ps = ⟨#[]⟩ := by
      unfold mkP compB
      rw [if_neg (fun q => h ⟨List.all_eq_true.1 q.1, q.2⟩)]
    rw [hP]
    unfold mkM
    rw [if_neg]
    rintro ⟨q1, q2⟩
    obtain ⟨a, b, c⟩ := mkM_parts hk (List.all_eq_true.1 q1) q2
    exact h ⟨a, c⟩
theorem mkM_none {k : UInt8} (hk : isComp k = true) {ps : List ByteArray} (hp : (∀ s ∈ ps, valB 31 s = true) → parted (ord 31) k (ps.map treeB) = true → False) : mkM k ps = ⟨#[]⟩ := by
  unfold mkM
  rw [if_neg]
  rintro ⟨q1, q2⟩
  obtain ⟨a, b, c⟩ := mkM_parts hk (List.all_eq_true.1 q1) q2
  exact hp a b
theorem tup_same (ps : List ByteArray) : tupP ps = mkM 3 ps := by
  unfold tupP
  split
  · rename_i h
    refine mk_same (by decide) fun _ => ?_
    unfold parted countOK ascOK
    rw [headL_ne (by decide) (by decide) (by decide)]
    simp; omega
  · rename_i h
    refine (mkM_none (by decide) fun _ q => h ?_).symm
    unfold parted countOK at q
    simp at q
    exact q.1
theorem seq_same (ps : List ByteArray) : mkP 4 ps = mkM 4 ps := by
  refine mk_same (by decide) fun _ => ?_
  unfold parted countOK ascOK
  rw [headL_ne (by decide) (by decide) (by decide)]
  simp
theorem set_same (ps : List ByteArray) : mkP 5 (sortM ps) = mkM 5 (sortM ps) :=
  mk_same (by decide) fun h => parted_set (by decide) h (sortM_asc ps)
theorem dot_same (z : Int) (ps : List ByteArray) : dotP z ps = mkM 7 (nameI z :: ps) := by
  by_cases hz : 0 ≤ z ∧ z ≤ 65535
  · have hn : nameI z = nameB z.toNat := by unfold nameI; rw [if_pos hz]
    unfold dotP
    rw [hn]
    split
    · rename_i h
      refine mk_same (by decide) fun _ => ?_
      rw [List.map_cons, tree_name]
      unfold parted countOK ascOK headL headOK
      simp; omega
    · rename_i h
      refine (mkM_none (by decide) fun _ q => h ?_).symm
      unfold parted countOK at q
      simp at q
      omega
  · have hn : nameI z = ⟨#[]⟩ := by unfold nameI; rw [if_neg hz]
    have hb : valB 32 ⟨#[]⟩ = false := by
      cases hh : valB 32 ⟨#[]⟩ with
      | false => rfl
      | true => exact absurd (val_two hh) (by decide)
    rw [hn, mkM_bad (List.mem_cons_self) hb]
    unfold dotP
    rw [hn]
    split
    · have h31 : valB 31 ⟨#[]⟩ = false := by
        cases hh : valB 31 ⟨#[]⟩ with
        | false => rfl
        | true => rw [valB_le (by decide) hh] at hb; cases hb
      exact compB_bad List.mem_cons_self h31
    · rfl
theorem fun_same (z : Int) (hz : -9223372036854775808 ≤ z ∧ z ≤ 9223372036854775807) (ps : List ByteArray) : funP z ps = mkM 8 (intB z :: ps) := by
  have hnum := numL_eight z hz.1 hz.2
  unfold funP
  split
  · rename_i h
    refine mk_same (by decide) fun _ => ?_
    rw [List.map_cons, tree_int]
    unfold parted countOK ascOK headL headOK
    simp [hnum]; omega
  · rename_i h
    refine (mkM_none (by decide) fun _ q => h ?_).symm
    rw [List.map_cons, tree_int] at q
    unfold parted countOK headL headOK at q
    simp [hnum] at q
    omega
theorem proc_same (z : Int) (hz : -9223372036854775808 ≤ z ∧ z ≤ 9223372036854775807) (ps : List ByteArray) : procP z ps = mkM 9 (intB z :: ps) := by
  have hnum := numL_eight z hz.1 hz.2
  unfold procP
  split
  · rename_i h
    refine mk_same (by decide) fun _ => ?_
    rw [List.map_cons, tree_int]
    unfold parted countOK ascOK headL headOK
    simp [hnum]; omega
  · rename_i h
    refine (mkM_none (by decide) fun _ q => h ?_).symm
    rw [List.map_cons, tree_int] at q
    unfold parted countOK headL headOK at q
    simp [hnum] at q
    omega
theorem inn_one : ∀ {ks vs : List ByteArray} {x : ByteArray}, ks.Nodup → ks.length = vs.length → x ∈ ks → ∃ v, inn x (ks.zip vs) = [x, v]
  | [], _, x, _, _, h => by cases h
  | _ :: _, [], _, _, h, _ => by simp at h
  | k :: ks, v :: vs, x, h, hl, hx => by
    obtain ⟨h1, h2⟩ := List.nodup_cons.1 h
    rw [List.zip_cons_cons, inn_cons]
    by_cases e : k = x
    · subst e
      refine ⟨v, ?_⟩
      rw [if_pos rfl, inn_none fun p hp q => h1 (by rw [← q]; exact (List.of_mem_zip (a := p.1) (b := p.2) hp).1), List.append_nil]
    · rw [if_neg e, List.nil_append]
      exact inn_one h2 (by simpa using hl) ((List.mem_cons.1 hx).resolve_left fun q => e q.symm)
theorem mpL_evens {zs : List (ByteArray × ByteArray)} : ∀ {s : List ByteArray}, (∀ x ∈ s, ∃ v, inn x zs = [x, v]) → evens ((mpL s zs).map treeB) = s.map treeB ∧ (mpL s zs).length = 2 * s.length
  | [], _ => ⟨rfl, rfl⟩
  | x :: s, h => by
    obtain ⟨v, hv⟩ := h x (by simp)
    obtain ⟨i1, i2⟩ := mpL_evens (s := s) fun y hy => h y (List.mem_cons_of_mem _ hy)
    have e : mpL (x :: s) zs = x :: v :: mpL s zs := by
      show inn x zs ++ _ = _
      rw [hv]; rfl
    rw [e]
    refine ⟨?_, by rw [List.length_cons, List.length_cons, List.length_cons, i2]; omega⟩
    show treeB x :: evens ((mpL s zs).map treeB) = _
    rw [i1]; rfl
theorem map_same (ks vs : List ByteArray) : mapP ks vs = mapM ks vs := by
  by_cases h : ks.length = vs.length ∧ ks.all (valB 32) = true ∧ ks.Nodup
  · obtain ⟨h1, h2, h3⟩ := h
    have hlen := (sortM_nodup (l := ks)).2 h3
    unfold mapP
    rw [if_pos ⟨h1, h2, h3⟩]
    cases hv : vs.all (valB 32) with
    | false =>
      have hM : mapM ks vs = ⟨#[]⟩ := by unfold mapM; rw [if_neg (fun q => by rw [hv] at q; cases q.2.2.1)]
      obtain ⟨v, hvm, hv2⟩ := all_false hv
      obtain ⟨j, hj, hjv⟩ := List.mem_iff_getElem.1 hvm
      have hjk : j < ks.length := by omega
      have hmem : v ∈ mpL (sortM ks) (ks.zip vs) := by
        unfold mpL inn
        refine List.mem_flatMap.2 ⟨ks[j], sortM_mem.2 (List.getElem_mem hjk), List.mem_flatMap.2 ⟨(ks[j], v), List.mem_filter.2 ⟨?_, by simp⟩, by simp⟩⟩
        exact List.mem_iff_getElem.2 ⟨j, by rw [List.length_zip]; omega, by rw [List.getElem_zip, hjv]⟩
      have h31 : valB 31 v = false := by
        cases hh : valB 31 v with
        | false => rfl
        | true => rw [valB_le (by decide) hh] at hv2; cases hv2
      rw [hM]
      exact compB_bad hmem h31
    | true =>
      unfold mapM
      rw [if_pos ⟨h1, h2, hv, hlen⟩]
      refine mk_same (by decide) fun h31 => ?_
      have hz := mpL_evens (zs := ks.zip vs) (s := sortM ks) fun x hx => inn_one h3 h1 (sortM_mem.1 hx)
      have hks : ∀ s ∈ sortM ks, valB 31 s = true := fun x hx => by
        refine h31 x ?_
        obtain ⟨v, hv⟩ := inn_one h3 h1 (sortM_mem.1 hx)
        unfold mpL
        exact List.mem_flatMap.2 ⟨x, hx, by rw [hv]; simp⟩
      unfold parted ascOK
      rw [headL_ne (by decide) (by decide) (by decide), hz.1]
      unfold countOK
      rw [List.length_map, hz.2]
      simp [asc_tree (d := 31) (by omega) hks (sortM_asc ks)]
  · have hM : mapM ks vs = ⟨#[]⟩ := by
      unfold mapM
      rw [if_neg (fun q => h ⟨q.1, q.2.1, sortM_nodup.1 q.2.2.2⟩)]
    unfold mapP
    rw [if_neg h, hM]

end Go.Proofs.YtmaboodfgmbdjaaGreatDoor
namespace Go.Proofs.YtmaboodfgmbdjaaGreatDoor
open Go Go.RowKit VM

theorem vawake_run : Ev.valOf (Ev.runC Tryz.prog 100000 .leaf 11 []) = some (.bool true) := by kernel_rfl
theorem vawake_any (w : World) : Calls Tryz.prog 11 #[] w fun e w' => e = .returned (.bool true) ∧ Below w.heap.size w w' :=
  Ev.calls_of_run (P := Tryz.prog) (by kernel_rfl) (args := []) rfl vawake_run w
theorem tl_self (s : ByteArray) : (s.toList == s.toList) = true := beq_self_eq_true _
/-- a list that came in or was made -/
structure LArg (n : Nat) (ls : List ByteArray) : Prop where
  len : n = ls.length
  le : n ≤ 1048575
  sz : ∀ s ∈ ls, s.size ≤ 281474976710656
  few : ls.all (valB 32) = true → n ≤ 524288
set_option maxRecDepth 100000 in
set_option maxHeartbeats 1600000 in
theorem lfun_any (z : Int) (ps : List ByteArray) (A : Option Addr) (n c : Nat) (w : World) (hn : n = ps.length) (hn1 : n ≤ 1048575) (hs : ∀ s ∈ ps, s.size ≤ 281474976710656) (hr : InC w A (ps.map Value.string)) :
    Calls Tryz.prog 28 #[.int .i64 z, .slice A n c] w fun e w' => e = .returned (.string (mkM 8 (intB z :: ps))) ∧ Below w.heap.size w w' := by
  have HC := hide (rnumbered_any 8 (by decide) z ps A n c w hn hn1 hs hr)
  generalize mkM 8 (intB z :: ps) = m at *
  clear hn hs hr
  go_enter Tryz.func28, Tryz.ntmps28
  go_wp2_with fail
  refine (unhide HC).mono ?_
  rintro e w3 ⟨rfl, hb3⟩
  have HB3 := hide hb3
  clear hb3
  go_wp2_with fail
  go_ret
  exact ⟨rfl, unhide HB3⟩
/-- what stands in the two rounds -/
structure RIn (W : World) (Al Am Ag Ah : Option Addr) (ls ms gs hs : List ByteArray) : Prop where
  l : InC W Al (ls.map Value.string)
  m : InC W Am (ms.map Value.string)
  g : InC W Ag (gs.map Value.string)
  h : InC W Ah (hs.map Value.string)
theorem RIn.below {W W' : World} {Al Am Ag Ah : Option Addr} {ls ms gs hs : List ByteArray} (h : RIn W Al Am Ag Ah ls ms gs hs) (hb : Below W.heap.size W W') : RIn W' Al Am Ag Ah ls ms gs hs :=
  ⟨h.l.below hb, h.m.below hb, h.g.below hb, h.h.below hb⟩
set_option linter.unusedSimpArgs false in
set_option maxRecDepth 100000 in
set_option maxHeartbeats 6400000 in
theorem valueMakes_any (z0 z2 : Int) (hz2 : -9223372036854775808 ≤ z2 ∧ z2 ≤ 9223372036854775807) (b1 : Bool) (ls ms : List ByteArray) (A3 A4 a5 : Option Addr) (n3 c3 n4 c4 n5 c5 : Nat) (hl3 : LArg n3 ls) (hl4 : LArg n4 ms) (h5 : n5 ≤ maxLen) (w : World)
    (hI3 : InC w A3 (ls.map Value.string)) (hI4 : InC w A4 (ms.map Value.string)) (hI5 : InInts w a5 n5) :
    Calls Tryz.prog 3 #[.int .i64 z0, .bool b1, .int .i64 z2, .slice A3 n3 c3, .slice A4 n4 c4, .slice a5 n5 c5] w fun e w' => e = .returned (.bool true) ∧ Below w.heap.size w w' := by
  have HVS := hide (fun w g A n c => values_st 3 (by decide) (value_st 3 (by decide) (by decide)) 3 6 6 rfl rfl (by decide) (by decide) w g A n c)
  have HV := hide (value_st 2 (by decide) (by decide))
  have HI3 := hide hI3
  have HI4 := hide hI4
  have HL3 := hide hl3
  have HL4 := hide hl4
  have HN5 := Lib.hid h5
  have HZ2 := Lib.hid hz2
  have HC0 := hide (CSt.start (c := c5) hI5)
  have HB0 : Hid (Below w.heap.size w (w.alloc (.cells #[.slice a5 n5 c5, .int .i64 0] 53))) := hide ((Below.refl _ _).alloc (Nat.le_refl _) _)
  obtain ⟨i0, hi0, hiz0, hiz1, hiz2⟩ := info_parts val_info
  clear hI3 hI4 hI5 h5 hl3 hl4 hz2
  go_enter Tryz.func3, Tryz.ntmps3
  go_wp2_with fail
  refine (new_cho w a5 n5 c5).mono ?_
  rintro e w1 ⟨rfl, rfl⟩
  have hsz1 : (w.alloc (.cells #[.slice a5 n5 c5, .int .i64 0] 53)).heap.size = w.heap.size + 1 := by simp
  generalize w.alloc (.cells #[.slice a5 n5 c5, .int .i64 0] 53) = w1 at *
  obtain ⟨g0, hg0⟩ : ∃ g0, g0 = w.heap.size := ⟨_, rfl⟩
  rw [← hg0] at HC0 ⊢
  have hg0l : w.heap.size ≤ g0 := Nat.le_of_eq hg0.symm
  have hg0b : g0 < w1.heap.size := by omega
  clear hsz1 hg0
  go_wp2_with fail
  refine ((unhide HVS) w1 g0 a5 n5 c5 (unhide HC0) HN5.out).mono ?_
  rintro e w2 ⟨Bl, cl, L, gs, rfl, hL, hL6, hv, hO, hC2, hG2⟩
  have HVG := Lib.hid hv
  have HL := Lib.hid hL
  have HC2 := hide hC2
  have HOG := hide hO
  have HB2 := hide (below_grown (unhide HB0) hG2 hg0l (Nat.le_refl _))
  have hg2 : g0 < w2.heap.size := hC2.lt
  have hgr : w1.heap.size ≤ w2.heap.size := hG2.size
  have HLG : Hid (∀ k, (Value.slice Bl L cl).ownBlock = some k → k < w2.heap.size) := Lib.hid fun k hk => (hO.lt k hk).2
  clear hL hv hO hC2 hG2 HC0 HB0
  go_wp2_with fail
  go_loopw [15, 16] (fun hv iv wr => ∃ (i : Nat) (hs : List ByteArray), iv = .int .i64 i ∧ i ≤ L ∧ Hid (i = hs.length) ∧ Hid (∀ s ∈ hs, ValOK 2 s) ∧ Hid (wr.ownsRow w2.heap.size 27 1 hv i (hs.map Value.string)) ∧ Hid (wr.ownsRow w1.heap.size 27 1 (.slice Bl L cl) L (gs.map Value.string)) ∧ Hid (CSt wr g0 a5 n5 c5) ∧ Hid (Below w.heap.size w wr) ∧ w2.heap.size ≤ wr.heap.size) (fun _ iv _ => L - (intOf iv).toNat)
  case atStart => exact ⟨0, [], rfl, by omega, rfl, fun s h => (by cases h), World.ownsRow_nil _ _ _ _, unhide HOG, unhide HC2, unhide HB2, Nat.le_refl _⟩
  case round =>
    obtain ⟨i, hs, rfl, hi, hil, hV, hO, hG, hC, hB, hsz⟩ := hrel
    obtain ⟨A6, c6, rfl⟩ := owns_form hO.out
    clear HC2 HOG HB2
    by_cases hiL : i < L
    · go_wp2_with fail
      refine ((unhide HV) 2 rfl wr g0 a5 n5 c5 hC.out HN5.out).mono ?_
      rintro e w3 ⟨s, rfl, hs3, hC3, hG3⟩
      have HO3 := hide (owns_other hO.out hG3 (row_g hO.out hg2))
      have HG3 := hide (owns_other hG.out hG3 (row_g hG.out hg0b))
      have HB3 := hide (below_grown hB.out hG3 hg0l (Nat.le_refl _))
      have HC3 := hide hC3
      have hz3 : w2.heap.size ≤ w3.heap.size := Nat.le_trans hsz hG3.size
      have HS3 := Lib.hid hs3
      clear hs3 hC3 hG3 hO hG hC hB
      have HO4 := hide ((unhide HO3).alloc (.cells #[.string s] 27))
      have HG4 := hide ((unhide HG3).alloc (.cells #[.string s] 27))
      have HB4 := hide ((unhide HB3).alloc (unhide HB3).size (.cells #[.string s] 27))
      have HC4 := hide ((unhide HC3).alloc (.cells #[.string s] 27))
      have HSEP : Hid (∀ k, (Value.slice Bl L cl).ownBlock = some k → (Value.slice A6 i c6).ownBlock ≠ some k) := Lib.hid (fun k hk e => by
        have h1 := HLG.out k hk
        have h2 := ((unhide HO3).lt k e).1
        omega)
      have hz4 : w2.heap.size ≤ (w3.alloc (.cells #[.string s] 27)).heap.size := by simp; omega
      go_wp2_with (at_builtin; refine wpList_app _ rfl _ _ 22 rfl w2.heap.size 27 i0 _ 1 16 Tryz.underlying22 hi0 hiz0 hiz1 hiz2 rfl (by decide) (.slice A6 i c6) i (hs.map Value.string) rfl (unhide HO4) (some ⟨w3.heap.size, 0, none⟩) 1 1 [.string s] rfl rfl (new_in w3 27 #[.string s]) (one_str s) (by unfold maxLen; omega) (by omega) hz4 ?_; intro v5 w5 hown5 hgrow5 _)
      have HO5 : Hid (w5.ownsRow w2.heap.size 27 1 v5 (i + 1) ((hs ++ [s]).map Value.string)) := hide (by rw [List.map_append]; exact hown5)
      have HG5 := hide (owns_other (unhide HG4) hgrow5 (fun k hk e => HSEP.out k hk e))
      have HC5 := hide ((unhide HC4).row hgrow5 (fun j hj => by have h1 := ((unhide HO4).lt j hj).1; omega))
      have HB5 : Hid (Below w.heap.size w w5) := hide (below_row (unhide HB4) hgrow5 (fun j hj => by have h1 := ((unhide HO4).lt j hj).1; omega))
      have hz5 : w2.heap.size ≤ w5.heap.size := Nat.le_trans hz4 hgrow5.size
      have HV5 : Hid (∀ u ∈ hs ++ [s], ValOK 2 u) := Lib.hid (fun u hu => by
        rcases List.mem_append.1 hu with hu | hu
        · exact hV.out u hu
        · rw [List.mem_singleton.1 hu]; exact HS3.out)
      have HLI : Hid (i + 1 = (hs ++ [s]).length) := Lib.hid (by rw [List.length_append, ← hil.out]; rfl)
      clear hown5 hgrow5 HO4 HG4 HC4 HB4 HO3 HG3 HC3 HB3 hz4 hz3
      go_wp2_with fail
      go_roundw
      case rel => exact ⟨i + 1, hs ++ [s], by go_num, by omega, HLI.out, HV5.out, unhide HO5, unhide HG5, unhide HC5, unhide HB5, hz5⟩
      case measure => simp [intOf]; omega
    · obtain rfl : i = L := by omega
      have HRI := hide (show RIn wr A3 A4 Bl A6 ls ms gs hs from ⟨(unhide HI3).below hB.out, (unhide HI4).below hB.out, InC.own hG.out, InC.own hO.out⟩)
      have HLG5 := hide (show LArg i gs from ⟨HL.out, by omega, fun s h => by have := (HVG.out s h).size (by decide); omega, fun _ => by omega⟩)
      have HLH5 := hide (show LArg i hs from ⟨hil.out, by omega, fun s h => by have := (hV.out s h).size (by decide); omega, fun _ => by omega⟩)
      have HBA := hide hB.out
      have HTZ := Lib.hid tl_self
      clear hO hG hC hB hsz hil hV HLG HI3 HI4 HV HVS
      have hzz0 := HTZ.out (intB z0)
      have hzz1 := HTZ.out (boolB b1)
      have hzz2 := HTZ.out (nameI z2)
      have HP1 := Lib.hid (fun w => pint_any z0 w)
      have HP2 := Lib.hid (fun w => rint_any z0 w)
      have HP3 := Lib.hid (fun w => pbool_any b1 w)
      have HP4 := Lib.hid (fun w => rboolB_any b1 w)
      have HP5 := Lib.hid (fun w => pnameI_any z2 w)
      have HP6 := Lib.hid (fun w => rnameI_any z2 w)
      generalize intB z0 = vi at *
      generalize boolB b1 = vb at *
      generalize nameI z2 = vn at *
      go_wp2_with fail
      refine (vawake_any _).mono ?_
      rintro e w20 ⟨rfl, hb20⟩
      have HRI20 := hide ((unhide HRI).below hb20)
      have HB20 := hide ((unhide HBA).trans (hb20.mono (unhide HBA).size))
      clear hb20 HRI HBA
      go_wp2_with fail
      refine (HP1.out _).mono ?_
      rintro e w21 ⟨rfl, hb21⟩
      have HRI21 := hide ((unhide HRI20).below hb21)
      have HB21 := hide ((unhide HB20).trans (hb21.mono (unhide HB20).size))
      clear hb21 HRI20 HB20
      go_wp2_with fail
      refine (HP2.out _).mono ?_
      rintro e w22 ⟨rfl, hb22⟩
      have HRI22 := hide ((unhide HRI21).below hb22)
      have HB22 := hide ((unhide HB21).trans (hb22.mono (unhide HB21).size))
      clear hb22 HRI21 HB21
      go_wp2_with fail
      refine (HP3.out _).mono ?_
      rintro e w23 ⟨rfl, hb23⟩
      have HRI23 := hide ((unhide HRI22).below hb23)
      have HB23 := hide ((unhide HB22).trans (hb23.mono (unhide HB22).size))
      clear hb23 HRI22 HB22
      go_wp2_with fail
      refine (HP4.out _).mono ?_
      rintro e w24 ⟨rfl, hb24⟩
      have HRI24 := hide ((unhide HRI23).below hb24)
      have HB24 := hide ((unhide HB23).trans (hb24.mono (unhide HB23).size))
      clear hb24 HRI23 HB23
      go_wp2_with fail
      refine (HP5.out _).mono ?_
      rintro e w25 ⟨rfl, hb25⟩
      have HRI25 := hide ((unhide HRI24).below hb25)
      have HB25 := hide ((unhide HB24).trans (hb25.mono (unhide HB24).size))
      clear hb25 HRI24 HB24
      go_wp2_with fail
      refine (HP6.out _).mono ?_
      rintro e w26 ⟨rfl, hb26⟩
      have HRI26 := hide ((unhide HRI25).below hb26)
      have HB26 := hide ((unhide HB25).trans (hb26.mono (unhide HB25).size))
      clear hb26 HRI25 HB25
      go_wp2_with fail
      clear hzz0 hzz1 hzz2
      go_loopw [2, 3, 4, 17] (fun kv lv mv iv wr => ∃ (r : Nat) (z : Int) (Al Am : Option Addr) (nl cl' nm cm : Nat) (la ma : List ByteArray), kv = .int .i64 z ∧ lv = .slice Al nl cl' ∧ mv = .slice Am nm cm ∧ iv = .int .i64 r ∧ r ≤ 2 ∧ Hid (-9223372036854775808 ≤ z ∧ z ≤ 9223372036854775807) ∧ Hid (LArg nl la) ∧ Hid (LArg nm ma) ∧ Hid (RIn wr Al Am Bl A6 la ma gs hs) ∧ Hid (Below w.heap.size w wr)) (fun _ _ _ iv _ => 2 - (intOf iv).toNat)
      case atStart => exact ⟨0, z2, A3, A4, n3, c3, n4, c4, ls, ms, rfl, rfl, rfl, rfl, by omega, HZ2.out, unhide HL3, unhide HL4, unhide HRI26, unhide HB26⟩
      case round =>
        obtain ⟨r, z, Al, Am, nl, cl', nm, cm, la, ma, rfl, rfl, rfl, rfl, hr, hzz, hla, hma, hRI, hBR⟩ := hrel
        clear HRI26 HB26
        by_cases hr2 : r < 2
        · have HMODZ : Hid (-9223372036854775808 ≤ (modK z 24 : Int) ∧ (modK z 24 : Int) ≤ 9223372036854775807) := Lib.hid (by
            have := modK_lt z 24 (by decide); omega)
          have HQ0 := Lib.hid (fun w (hr : RIn w Al Am Bl A6 la ma gs hs) => ptuple_any la Al nl cl' w hla.out.len (by have := hla.out.le; omega) hla.out.sz hr.l)
          rw [tup_same la] at HQ0
          have HR0 := Lib.hid (fun w (hr : RIn w Al Am Bl A6 la ma gs hs) => rmake_any 3 (by decide) la Al nl cl' w hla.out.len (by have := hla.out.le; omega) hla.out.sz hr.l)
          have ht0 := HTZ.out (mkM 3 la)
          have HQ1 := Lib.hid (fun w (hr : RIn w Al Am Bl A6 la ma gs hs) => pseq_any la Al nl cl' w hla.out.len (by have := hla.out.le; omega) hla.out.sz hr.l)
          rw [seq_same la] at HQ1
          have HR1 := Lib.hid (fun w (hr : RIn w Al Am Bl A6 la ma gs hs) => rmake_any 4 (by decide) la Al nl cl' w hla.out.len (by have := hla.out.le; omega) hla.out.sz hr.l)
          have ht1 := HTZ.out (mkM 4 la)
          have HQ2 := Lib.hid (fun w (hr : RIn w Al Am Bl A6 la ma gs hs) => pset_any la Al nl cl' w hla.out.len (by have := hla.out.le; omega) hla.out.sz hr.l)
          rw [set_same la] at HQ2
          have HR2 := Lib.hid (fun w (hr : RIn w Al Am Bl A6 la ma gs hs) => rset_any la Al nl cl' w hla.out.len (by have := hla.out.le; omega) hla.out.sz hr.l)
          have ht2 := HTZ.out (mkM 5 (sortM la))
          have HQ3 := Lib.hid (fun w (hr : RIn w Al Am Bl A6 la ma gs hs) => pmap_any la ma Al Am nl nm cl' cm w hla.out.len hma.out.len (by have := hla.out.le; omega) (by have := hma.out.le; omega) hla.out.few hla.out.sz hma.out.sz hr.l hr.m)
          rw [map_same la ma] at HQ3
          have HR3 := Lib.hid (fun w (hr : RIn w Al Am Bl A6 la ma gs hs) => rmap_any la ma Al Am nl nm cl' cm w hla.out.len hma.out.len (by have := hla.out.le; omega) (by have := hma.out.le; omega) hla.out.sz hma.out.sz hr.l hr.m)
          have ht3 := HTZ.out (mapM la ma)
          have HQ4 := Lib.hid (fun w (hr : RIn w Al Am Bl A6 la ma gs hs) => pdotI_any z la Al nl cl' w hla.out.len hla.out.le hla.out.sz hr.l)
          rw [dot_same z la] at HQ4
          have HR4 := Lib.hid (fun w (hr : RIn w Al Am Bl A6 la ma gs hs) => rdot_any z la Al nl cl' w hla.out.len hla.out.le hla.out.sz hr.l)
          have ht4 := HTZ.out (mkM 7 (nameI z :: la))
          have HQ5 := Lib.hid (fun w (hr : RIn w Al Am Bl A6 la ma gs hs) => pfunI_any z la Al nl cl' w hla.out.len hla.out.le hla.out.sz hr.l)
          rw [fun_same z hzz.out la] at HQ5
          have HR5 := Lib.hid (fun w (hr : RIn w Al Am Bl A6 la ma gs hs) => lfun_any z la Al nl cl' w hla.out.len hla.out.le hla.out.sz hr.l)
          have ht5 := HTZ.out (mkM 8 (intB z :: la))
          have HQ6 := Lib.hid (fun w (hr : RIn w Al Am Bl A6 la ma gs hs) => pprocI_any z la Al nl cl' w hla.out.len hla.out.le hla.out.sz hr.l)
          rw [proc_same z hzz.out la] at HQ6
          have HR6 := Lib.hid (fun w (hr : RIn w Al Am Bl A6 la ma gs hs) => rnumbered_any 9 (by decide) z la Al nl cl' w hla.out.len hla.out.le hla.out.sz hr.l)
          have ht6 := HTZ.out (mkM 9 (intB z :: la))
          generalize mkM 3 la = x0 at *
          generalize mkM 4 la = x1 at *
          generalize mkM 5 (sortM la) = x2 at *
          generalize mapM la ma = x3 at *
          generalize mkM 7 (nameI z :: la) = x4 at *
          generalize mkM 8 (intB z :: la) = x5 at *
          generalize mkM 9 (intB z :: la) = x6 at *
          have hla2 := hla
          go_wp2_with fail
          refine (HQ0.out _ (unhide hRI)).mono ?_
          rintro e w40 ⟨rfl, hb40⟩
          have HRI40 := hide ((unhide hRI).below hb40)
          have HB40 := hide ((unhide hBR).trans (hb40.mono (unhide hBR).size))
          clear hb40 hRI hBR
          go_wp2_with fail
          refine (HR0.out _ (unhide HRI40)).mono ?_
          rintro e w41 ⟨rfl, hb41⟩
          have HRI41 := hide ((unhide HRI40).below hb41)
          have HB41 := hide ((unhide HB40).trans (hb41.mono (unhide HB40).size))
          clear hb41 HRI40 HB40
          go_wp2_with fail
          refine (HQ1.out _ (unhide HRI41)).mono ?_
          rintro e w42 ⟨rfl, hb42⟩
          have HRI42 := hide ((unhide HRI41).below hb42)
          have HB42 := hide ((unhide HB41).trans (hb42.mono (unhide HB41).size))
          clear hb42 HRI41 HB41
          go_wp2_with fail
          refine (HR1.out _ (unhide HRI42)).mono ?_
          rintro e w43 ⟨rfl, hb43⟩
          have HRI43 := hide ((unhide HRI42).below hb43)
          have HB43 := hide ((unhide HB42).trans (hb43.mono (unhide HB42).size))
          clear hb43 HRI42 HB42
          go_wp2_with fail
          refine (HQ2.out _ (unhide HRI43)).mono ?_
          rintro e w44 ⟨rfl, hb44⟩
          have HRI44 := hide ((unhide HRI43).below hb44)
          have HB44 := hide ((unhide HB43).trans (hb44.mono (unhide HB43).size))
          clear hb44 HRI43 HB43
          go_wp2_with fail
          refine (HR2.out _ (unhide HRI44)).mono ?_
          rintro e w45 ⟨rfl, hb45⟩
          have HRI45 := hide ((unhide HRI44).below hb45)
          have HB45 := hide ((unhide HB44).trans (hb45.mono (unhide HB44).size))
          clear hb45 HRI44 HB44
          go_wp2_with fail
          refine (HQ3.out _ (unhide HRI45)).mono ?_
          rintro e w46 ⟨rfl, hb46⟩
          have HRI46 := hide ((unhide HRI45).below hb46)
          have HB46 := hide ((unhide HB45).trans (hb46.mono (unhide HB45).size))
          clear hb46 HRI45 HB45
          go_wp2_with fail
          refine (HR3.out _ (unhide HRI46)).mono ?_
          rintro e w47 ⟨rfl, hb47⟩
          have HRI47 := hide ((unhide HRI46).below hb47)
          have HB47 := hide ((unhide HB46).trans (hb47.mono (unhide HB46).size))
          clear hb47 HRI46 HB46
          go_wp2_with fail
          refine (HQ4.out _ (unhide HRI47)).mono ?_
          rintro e w48 ⟨rfl, hb48⟩
          have HRI48 := hide ((unhide HRI47).below hb48)
          have HB48 := hide ((unhide HB47).trans (hb48.mono (unhide HB47).size))
          clear hb48 HRI47 HB47
          go_wp2_with fail
          refine (HR4.out _ (unhide HRI48)).mono ?_
          rintro e w49 ⟨rfl, hb49⟩
          have HRI49 := hide ((unhide HRI48).below hb49)
          have HB49 := hide ((unhide HB48).trans (hb49.mono (unhide HB48).size))
          clear hb49 HRI48 HB48
          go_wp2_with fail
          refine (HQ5.out _ (unhide HRI49)).mono ?_
          rintro e w50 ⟨rfl, hb50⟩
          have HRI50 := hide ((unhide HRI49).below hb50)
          have HB50 := hide ((unhide HB49).trans (hb50.mono (unhide HB49).size))
          clear hb50 HRI49 HB49
          go_wp2_with fail
          refine (HR5.out _ (unhide HRI50)).mono ?_
          rintro e w51 ⟨rfl, hb51⟩
          have HRI51 := hide ((unhide HRI50).below hb51)
          have HB51 := hide ((unhide HB50).trans (hb51.mono (unhide HB50).size))
          clear hb51 HRI50 HB50
          go_wp2_with fail
          refine (HQ6.out _ (unhide HRI51)).mono ?_
          rintro e w52 ⟨rfl, hb52⟩
          have HRI52 := hide ((unhide HRI51).below hb52)
          have HB52 := hide ((unhide HB51).trans (hb52.mono (unhide HB51).size))
          clear hb52 HRI51 HB51
          go_wp2_with fail
          refine (HR6.out _ (unhide HRI52)).mono ?_
          rintro e w53 ⟨rfl, hb53⟩
          have HRI53 := hide ((unhide HRI52).below hb53)
          have HB53 := hide ((unhide HB52).trans (hb53.mono (unhide HB52).size))
          clear hb53 HRI52 HB52
          go_wp2_with fail
          refine (mod_any z 24 (by decide) (by decide) _).mono ?_
          rintro e w70 ⟨rfl, rfl⟩
          go_wp2_with fail
          go_roundw
          case rel => exact ⟨r + 1, modK z 24, Bl, A6, i, cl, i, c6, gs, hs, rfl, rfl, rfl, by go_num, by omega, HMODZ.out, unhide HLG5, unhide HLH5, ⟨(unhide HRI53).g, (unhide HRI53).h, (unhide HRI53).g, (unhide HRI53).h⟩, unhide HB53⟩
          case measure => simp [intOf]; omega
        · go_wp2_with fail
          go_ret
          exact ⟨rfl, hBR.out⟩

end Go.Proofs.YtmaboodfgmbdjaaGreatDoor
