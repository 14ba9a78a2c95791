/- The writer of sources: its literal strings, leaf, event and events. Conditions: at most 1000 names. -/
import Derived.Test.YtkjjagmpnnnimaaGreatDoorQ11
namespace Go.Proofs.YtkjjagmpnnnimaaGreatDoor
open Go.RowKit M

theorem S_size (l : Bs) : (S l).size = l.length := by simp [S, size_lit]
def tlA : List Bs := [[116, 114, 117, 101], [102, 97, 108, 115, 101]]
theorem tlA_le (k : Nat) (h : k < 2) : (tlA.getD k []).length ≤ 5 := by
  have : ∀ k : Fin 2, (tlA.getD k.val []).length ≤ 5 := by decide
  exact this ⟨k, h⟩
def tlB : List Bs := [[60, 62], [60, 49, 44, 32, 50, 62], [60, 51, 46, 46, 53, 62]]
theorem tlB_le (k : Nat) (h : k < 3) : (tlB.getD k []).length ≤ 6 := by
  have : ∀ k : Fin 3, (tlB.getD k.val []).length ≤ 6 := by decide
  exact this ⟨k, h⟩
def tlC : List Bs := [[123, 125], [123, 49, 44, 32, 50, 125], [123, 48, 46, 46, 51, 125]]
theorem tlC_le (k : Nat) (h : k < 3) : (tlC.getD k []).length ≤ 6 := by
  have : ∀ k : Fin 3, (tlC.getD k.val []).length ≤ 6 := by decide
  exact this ⟨k, h⟩
def tlD : List Bs := [[65], [66], [67, 46, 48], [67, 46, 49]]
theorem tlD_le (k : Nat) (h : k < 4) : (tlD.getD k []).length ≤ 3 := by
  have : ∀ k : Fin 4, (tlD.getD k.val []).length ≤ 3 := by decide
  exact this ⟨k, h⟩
def tlE : List Bs := [[97], [98], [99, 46, 48], [100, 46, 116, 114, 117, 101], [100, 46, 102, 97, 108, 115, 101]]
theorem tlE_le (k : Nat) (h : k < 5) : (tlE.getD k []).length ≤ 7 := by
  have : ∀ k : Fin 5, (tlE.getD k.val []).length ≤ 7 := by decide
  exact this ⟨k, h⟩
def tlF : List Bs := [[123, 97, 125], [123, 124, 32, 99, 32, 124, 125], [123, 97, 44, 32, 98, 125], [123, 125], [123, 124, 32, 99, 44, 32, 100, 32, 124, 125], [69, 118, 101, 110, 116, 115]]
theorem tlF_le (k : Nat) (h : k < 6) : (tlF.getD k []).length ≤ 10 := by
  have : ∀ k : Fin 6, (tlF.getD k.val []).length ≤ 10 := by decide
  exact this ⟨k, h⟩
def tlG : List Bs := [[32, 43, 32], [32, 45, 32], [32, 42, 32]]
theorem tlG_le (k : Nat) (h : k < 3) : (tlG.getD k []).length ≤ 3 := by
  have : ∀ k : Fin 3, (tlG.getD k.val []).length ≤ 3 := by decide
  exact this ⟨k, h⟩
def tlH : List Bs := [[32, 47, 32], [32, 37, 32]]
theorem tlH_le (k : Nat) (h : k < 2) : (tlH.getD k []).length ≤ 3 := by
  have : ∀ k : Fin 2, (tlH.getD k.val []).length ≤ 3 := by decide
  exact this ⟨k, h⟩
def tlI : List Bs := [[32, 60, 32], [32, 60, 61, 32], [32, 61, 61, 32], [32, 33, 61, 32], [32, 62, 61, 32]]
theorem tlI_le (k : Nat) (h : k < 5) : (tlI.getD k []).length ≤ 4 := by
  have : ∀ k : Fin 5, (tlI.getD k.val []).length ≤ 4 := by decide
  exact this ⟨k, h⟩
def tlJ : List Bs := [[32, 97, 110, 100, 32], [32, 111, 114, 32]]
theorem tlJ_le (k : Nat) (h : k < 2) : (tlJ.getD k []).length ≤ 5 := by
  have : ∀ k : Fin 2, (tlJ.getD k.val []).length ≤ 5 := by decide
  exact this ⟨k, h⟩
def tlK : List Bs := [[117, 110, 105, 111, 110], [105, 110, 116, 101, 114], [100, 105, 102, 102]]
theorem tlK_le (k : Nat) (h : k < 3) : (tlK.getD k []).length ≤ 5 := by
  have : ∀ k : Fin 3, (tlK.getD k.val []).length ≤ 5 := by decide
  exact this ⟨k, h⟩
def tlL : List Bs := [[32, 91, 93, 32], [32, 124, 126, 124, 32], [32, 59, 32], [32, 47, 92, 32], [32, 91, 62, 32], [32, 124, 124, 124, 32]]
theorem tlL_le (k : Nat) (h : k < 6) : (tlL.getD k []).length ≤ 5 := by
  have : ∀ k : Fin 6, (tlL.getD k.val []).length ≤ 5 := by decide
  exact this ⟨k, h⟩

set_option maxRecDepth 100000 in
set_option maxHeartbeats 3200000 in
theorem gevent {w : World} {Pr : Nat → Prop} {X : GC} {k fr : Nat} (h : GSt w Pr X k fr) (hn : X.n ≤ maxLen) :
    Calls Tryz.prog 19 #[.pointer (some ⟨X.wb, 0, none⟩)] w (GPost w Pr X k fr 7 0) := by
  have k0 := h.c0
  have k0' : ∀ o : Obj, (w.alloc o).cell? ⟨X.wb, 0, none⟩ = some (.pointer (some ⟨X.g, 0, none⟩)) := fun o => (h.alloc o).c0
  have HS := Lib.hid h
  have HN := Lib.hid hn
  clear h hn
  go_enter Tryz.func19, Tryz.ntmps19
  go_wp2_with fail
  refine (gnext 5 5 rfl (by decide) (by decide) (HS.out.more (strBlock tlE)) HN.out).mono ?_
  rintro e w1 ⟨r, hr, rfl, hG, hK⟩
  have hst : w1.cell? ⟨w.heap.size, r, none⟩ = some (.string (S (tlE.getD r []))) := str_cell ((hK.block _ (.inr rfl)).trans (heap_alloc_new w _)) r (show r < tlE.length from hr)
  have hle := tlE_le r hr
  generalize tlE.getD r [] = st at *
  have HG := Lib.hid (hG.back HS.out.gl)
  have HK := Lib.hid (((Keep.refl Pr w).alloc HS.out.lt (strBlock tlE)).trans (hK.mono fun _ q => .inl q))
  clear hG hK
  have b0 : (0 : Int) ≤ (r : Int) := by omega
  have b1 : (r : Int) < 5 := by omega
  go_wp2_with fail
  go_ret
  exact ⟨_, fr, rfl, by rw [S_size]; omega, by omega, by omega, HG.out, HK.out⟩

set_option maxRecDepth 100000 in
set_option maxHeartbeats 3200000 in
theorem gevents {w : World} {Pr : Nat → Prop} {X : GC} {k fr : Nat} (h : GSt w Pr X k fr) (hn : X.n ≤ maxLen) :
    Calls Tryz.prog 44 #[.pointer (some ⟨X.wb, 0, none⟩)] w (GPost w Pr X k fr 10 0) := by
  have k0 := h.c0
  have k0' : ∀ o : Obj, (w.alloc o).cell? ⟨X.wb, 0, none⟩ = some (.pointer (some ⟨X.g, 0, none⟩)) := fun o => (h.alloc o).c0
  have HS := Lib.hid h
  have HN := Lib.hid hn
  clear h hn
  go_enter Tryz.func44, Tryz.ntmps44
  go_wp2_with fail
  refine (gnext 6 6 rfl (by decide) (by decide) (HS.out.more (strBlock tlF)) HN.out).mono ?_
  rintro e w1 ⟨r, hr, rfl, hG, hK⟩
  have hst : w1.cell? ⟨w.heap.size, r, none⟩ = some (.string (S (tlF.getD r []))) := str_cell ((hK.block _ (.inr rfl)).trans (heap_alloc_new w _)) r (show r < tlF.length from hr)
  have hle := tlF_le r hr
  generalize tlF.getD r [] = st at *
  have HG := Lib.hid (hG.back HS.out.gl)
  have HK := Lib.hid (((Keep.refl Pr w).alloc HS.out.lt (strBlock tlF)).trans (hK.mono fun _ q => .inl q))
  clear hG hK
  have b0 : (0 : Int) ≤ (r : Int) := by omega
  have b1 : (r : Int) < 6 := by omega
  go_wp2_with fail
  go_ret
  exact ⟨_, fr, rfl, by rw [S_size]; omega, by omega, by omega, HG.out, HK.out⟩

set_option maxRecDepth 100000 in
set_option maxHeartbeats 6400000 in
theorem gleaf (t : Int) {w : World} {Pr : Nat → Prop} {X : GC} {k fr : Nat} (h : GSt w Pr X k fr) (hn : X.n ≤ maxLen) :
    Calls Tryz.prog 38 #[.pointer (some ⟨X.wb, 0, none⟩), .int .i64 t] w (GPost w Pr X k fr 9 0) := by
  have k0 := h.c0
  have k0' : ∀ o : Obj, (w.alloc o).cell? ⟨X.wb, 0, none⟩ = some (.pointer (some ⟨X.g, 0, none⟩)) := fun o => (h.alloc o).c0
  have HS := Lib.hid h
  have HN := Lib.hid hn
  clear h hn
  go_enter Tryz.func38, Tryz.ntmps38
  have ht : t = 1 ∨ t = 2 ∨ t = 3 ∨ t = 5 ∨ t = 4 ∨ (t ≠ 1 ∧ t ≠ 2 ∧ t ≠ 3 ∧ t ≠ 4 ∧ t ≠ 5) := by omega
  rcases ht with rfl | rfl | rfl | rfl | rfl | ⟨h1, h2, h3, h4, h5⟩
  · go_wp2_with fail
    refine (gnext 2 2 rfl (by decide) (by decide) (HS.out.more (strBlock tlA)) HN.out).mono ?_
    rintro e w1 ⟨r, hr, rfl, hG, hK⟩
    have hst : w1.cell? ⟨w.heap.size, r, none⟩ = some (.string (S (tlA.getD r []))) := str_cell ((hK.block _ (.inr rfl)).trans (heap_alloc_new w _)) r (show r < tlA.length from hr)
    have hle := tlA_le r hr
    generalize tlA.getD r [] = st at *
    have HG := Lib.hid (hG.back HS.out.gl)
    have HK := Lib.hid (((Keep.refl Pr w).alloc HS.out.lt (strBlock tlA)).trans (hK.mono fun _ q => .inl q))
    clear hG hK
    have b0 : (0 : Int) ≤ (r : Int) := by omega
    have b1 : (r : Int) < 2 := by omega
    go_wp2_with fail
    go_ret
    exact ⟨_, fr, rfl, by rw [S_size]; omega, by omega, by omega, HG.out, HK.out⟩
  · go_wp2_with fail
    refine (gnext 3 3 rfl (by decide) (by decide) (HS.out.more (strBlock tlB)) HN.out).mono ?_
    rintro e w1 ⟨r, hr, rfl, hG, hK⟩
    have hst : w1.cell? ⟨w.heap.size, r, none⟩ = some (.string (S (tlB.getD r []))) := str_cell ((hK.block _ (.inr rfl)).trans (heap_alloc_new w _)) r (show r < tlB.length from hr)
    have hle := tlB_le r hr
    generalize tlB.getD r [] = st at *
    have HG := Lib.hid (hG.back HS.out.gl)
    have HK := Lib.hid (((Keep.refl Pr w).alloc HS.out.lt (strBlock tlB)).trans (hK.mono fun _ q => .inl q))
    clear hG hK
    have b0 : (0 : Int) ≤ (r : Int) := by omega
    have b1 : (r : Int) < 3 := by omega
    go_wp2_with fail
    go_ret
    exact ⟨_, fr, rfl, by rw [S_size]; omega, by omega, by omega, HG.out, HK.out⟩
  · go_wp2_with fail
    refine (gnext 3 3 rfl (by decide) (by decide) (HS.out.more (strBlock tlC)) HN.out).mono ?_
    rintro e w1 ⟨r, hr, rfl, hG, hK⟩
    have hst : w1.cell? ⟨w.heap.size, r, none⟩ = some (.string (S (tlC.getD r []))) := str_cell ((hK.block _ (.inr rfl)).trans (heap_alloc_new w _)) r (show r < tlC.length from hr)
    have hle := tlC_le r hr
    generalize tlC.getD r [] = st at *
    have HG := Lib.hid (hG.back HS.out.gl)
    have HK := Lib.hid (((Keep.refl Pr w).alloc HS.out.lt (strBlock tlC)).trans (hK.mono fun _ q => .inl q))
    clear hG hK
    have b0 : (0 : Int) ≤ (r : Int) := by omega
    have b1 : (r : Int) < 3 := by omega
    go_wp2_with fail
    go_ret
    exact ⟨_, fr, rfl, by rw [S_size]; omega, by omega, by omega, HG.out, HK.out⟩
  · go_wp2_with fail
    refine (gnext 4 4 rfl (by decide) (by decide) (HS.out.more (strBlock tlD)) HN.out).mono ?_
    rintro e w1 ⟨r, hr, rfl, hG, hK⟩
    have hst : w1.cell? ⟨w.heap.size, r, none⟩ = some (.string (S (tlD.getD r []))) := str_cell ((hK.block _ (.inr rfl)).trans (heap_alloc_new w _)) r (show r < tlD.length from hr)
    have hle := tlD_le r hr
    generalize tlD.getD r [] = st at *
    have HG := Lib.hid (hG.back HS.out.gl)
    have HK := Lib.hid (((Keep.refl Pr w).alloc HS.out.lt (strBlock tlD)).trans (hK.mono fun _ q => .inl q))
    clear hG hK
    have b0 : (0 : Int) ≤ (r : Int) := by omega
    have b1 : (r : Int) < 4 := by omega
    go_wp2_with fail
    go_ret
    exact ⟨_, fr, rfl, by rw [S_size]; omega, by omega, by omega, HG.out, HK.out⟩
  · go_wp2_with fail
    refine (gnext 5 5 rfl (by decide) (by decide) HS.out HN.out).mono ?_
    rintro e w1 ⟨r, hr, rfl, hG, hK⟩
    have HG := Lib.hid hG
    have HK := Lib.hid hK
    have hd := digS_size r
    clear hG hK
    go_wp2_with fail
    refine (gdig _ r rfl (by omega) _).mono ?_
    rintro e w2 ⟨rfl, rfl⟩
    go_wp2_with fail
    go_ret
    exact ⟨_, fr, rfl, by simp [ByteArray.size_append, size_lit]; omega, by omega, by omega, HG.out, HK.out⟩
  · have g1 : (t == 1) = false := beq_eq_false_iff_ne.2 h1
    have g2 : (t == 2) = false := beq_eq_false_iff_ne.2 h2
    have g3 : (t == 3) = false := beq_eq_false_iff_ne.2 h3
    have g4 : (t == 4) = false := beq_eq_false_iff_ne.2 h4
    have g5 : (t == 5) = false := beq_eq_false_iff_ne.2 h5
    clear h1 h2 h3 h4 h5
    go_wp2_with fail
    refine (gnext 6 6 rfl (by decide) (by decide) HS.out HN.out).mono ?_
    rintro e w1 ⟨r, hr, rfl, hG, hK⟩
    have HG := Lib.hid hG
    have HK := Lib.hid hK
    have hd := digS_size r
    clear hG hK
    go_wp2_with fail
    refine (gdig _ r rfl (by omega) _).mono ?_
    rintro e w2 ⟨rfl, rfl⟩
    go_wp2_with fail
    go_ret
    exact ⟨_, fr, rfl, by omega, by omega, by omega, HG.out, HK.out⟩

end Go.Proofs.YtkjjagmpnnnimaaGreatDoor
