/- LexerErrorStays' walk: an error is found at the same position whatever follows a byte that starts no item. -/
import Derived.Test.YtcgihgfajahogaaDoorLexT
import Derived.Test.YtcgihgfajahogaaDoorLexX
import Derived.Test.YtcgihgfajahogaaDoorLexC
namespace Go.Proofs.YtcgihgfajahogaaDoor
open Go.RowKit M

set_option maxRecDepth 100000 in
set_option maxHeartbeats 2000000 in
theorem lexerErrorStays_any (A : Option Addr) (n c : Nat) (hn : n ≤ maxLen) (bh : ByteArray) (hbh : bh.size ≤ maxLen) (w : World) (hA : InBytes w A n) (hr : RangeVar w) :
    Calls Tryd.prog 10 #[.slice A n c, .string bh] w fun e w' => e = .returned (.bool true) ∧ Below w.heap.size w w' := by
  have HP := Lib.hid (pieces_any w A n c hA hn)
  have HR := Lib.hid hr
  have hm1 : (min (bh.size : Int) 100).toNat ≤ 100 := by omega
  have hm2 : (min (bh.size : Int) 100).toNat ≤ bh.size := by omega
  have hxl : (bh.extract 0 (min (bh.size : Int) 100).toNat).data.toList.length ≤ 1000 := by rw [extract_take, List.length_take]; omega
  have hxs : (bh.extract 0 (min (bh.size : Int) 100).toNat).size ≤ 100 := by rw [ByteArray.size_extract]; omega
  unfold maxLen at hbh
  clear hA hn hr hm1 hm2
  go_enter Tryd.func10, Tryd.ntmps10
  go_wp2_with fail
  refine HP.out.mono ?_
  rintro e w0 ⟨t, rfl, ht, hb0⟩
  have HB0 := Lib.hid hb0
  have HR0 : Hid (RangeVar w0) := HR.out.below hb0
  have hz1 : (t ++ ⟨#[10, 1]⟩).size = t.size + 2 := by rw [ByteArray.size_append]; rfl
  have hz2 : (t ++ ⟨#[10]⟩).size = t.size + 1 := by rw [ByteArray.size_append]; rfl
  have hz3 : (t ++ ⟨#[10, 1]⟩ ++ bh.extract 0 (min (bh.size : Int) 100).toNat).size = t.size + 2 + (bh.extract 0 (min (bh.size : Int) 100).toNat).size := by rw [ByteArray.size_append, hz1]
  have htl : t.data.toList.length ≤ 1000 := by have : t.data.toList.length = t.size := by simp
                                               omega
  have hst := scan_stays t.data.toList (bh.extract 0 (min (bh.size : Int) 100).toNat).data.toList htl hxl
  have H1 := fun W h => scan_any (t ++ ⟨#[10, 1]⟩) (by unfold maxLen; omega) W h
  have H2 := fun W h => scan_any (t ++ ⟨#[10, 1]⟩ ++ bh.extract 0 (min (bh.size : Int) 100).toNat) (by unfold maxLen; omega) W h
  have H3 := fun W => rscan_any (t ++ ⟨#[10]⟩) (by unfold maxLen; omega) W
  rw [toList_append, toList_append] at H2
  rw [toList_append] at H1 H3
  have el1 : (⟨#[10, 1]⟩ : ByteArray).data.toList = [10, 1] := rfl
  have el2 : (⟨#[10]⟩ : ByteArray).data.toList = [10] := rfl
  rw [el1] at H1 H2
  rw [el2] at H3
  obtain ⟨E, hE⟩ : ∃ E, scan (t.data.toList ++ [10, 1]) = E := ⟨_, rfl⟩
  obtain ⟨F, hF⟩ : ∃ F, scan (t.data.toList ++ [10, 1] ++ (bh.extract 0 (min (bh.size : Int) 100).toNat).data.toList) = F := ⟨_, rfl⟩
  obtain ⟨G, hG⟩ : ∃ G, scan (t.data.toList ++ [10]) = G := ⟨_, rfl⟩
  rw [hE] at H1 hst
  rw [hF] at H2 hst
  rw [hG] at H3 hst
  clear hE hF hG
  have HS1 := Lib.hid H1
  have HS2 := Lib.hid H2
  have HS3 := Lib.hid H3
  have HST := Lib.hid hst
  have HZ3 := Lib.hid hz3
  clear H1 H2 H3 hst hz1 hz2 hz3 el1 el2 htl hb0 hxl
  obtain ⟨ts1, ⟨a1, b1⟩, er1⟩ := E
  obtain ⟨ts2, ⟨a2, b2⟩, er2⟩ := F
  obtain ⟨ts3, ⟨a3, b3⟩, er3⟩ := G
  go_wp2_with fail
  refine (HS1.out _ HR0.out).mono ?_
  rintro e w1 ⟨v1, rfl, ho1, hb1⟩
  have HB1 : Hid (Below w.heap.size w w1) := HB0.out.trans (hb1.mono HB0.out.size)
  have HR1 : Hid (RangeVar w1) := HR0.out.below hb1
  have hs1 := HB1.out.size
  clear ho1 hb1
  go_wp2_with fail
  refine (HS2.out _ (HR1.out.alloc _)).mono ?_
  rintro e w2 ⟨v2, rfl, ho2, hb2⟩
  have HR2 : Hid (RangeVar w2) := (HR1.out.alloc _).below hb2
  have HB2 : Hid (Below w.heap.size w w2) := (HB1.out.alloc hs1 _).trans (hb2.mono (by simp; omega))
  have hs2 := HB2.out.size
  have hs12 : w1.heap.size < w2.heap.size := by have := hb2.size; simp at this; omega
  have k0 : w2.cell? ⟨w1.heap.size, 0, none⟩ = some (.int .i64 a1) := (hb2.cell (p := ⟨w1.heap.size, 0, none⟩) (by simp)).trans (cell_of_row _ _ 0 _ _ _ (heap_alloc_new w1 _))
  have k1 : w2.cell? ⟨w1.heap.size, 1, none⟩ = some (.int .i64 b1) := (hb2.cell (p := ⟨w1.heap.size, 1, none⟩) (by simp)).trans (cell_of_row _ _ 1 _ _ _ (heap_alloc_new w1 _))
  have K0 := Lib.hid k0
  have K1 := Lib.hid k1
  clear ho2 hb2 k0 k1
  go_wp2_with fail
  refine (HS3.out _).mono ?_
  rintro e w3 ⟨v3, rfl, ho3, hb3⟩
  have HR3 : Hid (RangeVar w3) := (HR2.out.alloc _).below hb3
  have HB3 : Hid (Below w.heap.size w w3) := (HB2.out.alloc hs2 _).trans (hb3.mono (by simp; omega))
  have HBB3 := Lib.hid hb3
  have hs3 := HB3.out.size
  have hs23 : w2.heap.size < w3.heap.size := by have := hb3.size; simp at this; omega
  clear ho3 hb3
  go_wp2_with fail
  refine (awake_any _ (HR3.out.alloc _)).mono ?_
  rintro e w4 ⟨rfl, hb4⟩
  have HB4 : Hid (Below w.heap.size w w4) := (HB3.out.alloc hs3 _).trans (hb4.mono (by simp; omega))
  have c34 : Below w3.heap.size w3 w4 := ((Below.refl _ _).alloc (Nat.le_refl _) _).trans (hb4.mono (by simp))
  have j0 : w4.cell? ⟨w1.heap.size, 0, none⟩ = some (.int .i64 a1) := (c34.cell (p := ⟨w1.heap.size, 0, none⟩) (by show w1.heap.size < _; omega)).trans ((HBB3.out.cell (p := ⟨w1.heap.size, 0, none⟩) (by simp; omega)).trans ((World.cell?_alloc_lt w2 _ ⟨w1.heap.size, 0, none⟩ hs12).trans K0.out))
  have j1 : w4.cell? ⟨w1.heap.size, 1, none⟩ = some (.int .i64 b1) := (c34.cell (p := ⟨w1.heap.size, 1, none⟩) (by show w1.heap.size < _; omega)).trans ((HBB3.out.cell (p := ⟨w1.heap.size, 1, none⟩) (by simp; omega)).trans ((World.cell?_alloc_lt w2 _ ⟨w1.heap.size, 1, none⟩ hs12).trans K1.out))
  have l0 : w4.cell? ⟨w2.heap.size, 0, none⟩ = some (.int .i64 a2) := (c34.cell (p := ⟨w2.heap.size, 0, none⟩) hs23).trans ((HBB3.out.cell (p := ⟨w2.heap.size, 0, none⟩) (by simp)).trans (cell_of_row _ _ 0 _ _ _ (heap_alloc_new w2 _)))
  have l1 : w4.cell? ⟨w2.heap.size, 1, none⟩ = some (.int .i64 b2) := (c34.cell (p := ⟨w2.heap.size, 1, none⟩) hs23).trans ((HBB3.out.cell (p := ⟨w2.heap.size, 1, none⟩) (by simp)).trans (cell_of_row _ _ 1 _ _ _ (heap_alloc_new w2 _)))
  obtain ⟨hne, hok⟩ := HST.out
  have g1 : (er1 != 0) = true := by simpa using hne
  clear hb4 c34 hne HS1 HS2 HS3 HST
  by_cases h3 : er3 = 0
  · obtain ⟨pos, he1, he2⟩ := hok h3
    simp only [Prod.mk.injEq] at he1 he2
    obtain ⟨rfl, ⟨rfl, rfl⟩, rfl⟩ := he1
    obtain ⟨rfl, ⟨rfl, rfl⟩, rfl⟩ := he2
    have g3 : (er3 != 0) = false := by simp [h3]
    clear hok h3 g1
    go_wp2
    go_ret
    exact ⟨rfl, HB4.out⟩
  · have g3 : (er3 != 0) = true := by simp [h3]
    clear hok h3
    go_wp2
    go_ret
    exact ⟨rfl, HB4.out⟩

end Go.Proofs.YtcgihgfajahogaaDoor
