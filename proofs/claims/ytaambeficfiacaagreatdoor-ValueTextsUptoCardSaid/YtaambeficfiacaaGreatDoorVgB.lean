/- The statements' values: what Value and Values leave; Values, given Value one level down. Conditions: that contract; at most 100 values. -/
import Derived.Test.YtaambeficfiacaaGreatDoorVgA
import Derived.Test.YtaambeficfiacaaGreatDoorVgM
namespace Go.Proofs.YtaambeficfiacaaGreatDoor
open Go.RowKit VM

section
variable {w w' wr : World} {g n c : Nat} {A : Option Addr}
theorem only_row {v : Value} (h : w.grownBy wr (some g)) (k : wr.grownBy w' v.ownBlock) (hv : ∀ j, v.ownBlock = some j → w.heap.size ≤ j) : w.grownBy w' (some g) :=
  ⟨k.os.trans h.os, k.tape.trans h.tape, k.output.trans h.output, Nat.le_trans h.size k.size, fun i hi hne => (k.block i (Nat.lt_of_lt_of_le hi h.size) (fun e => by have := hv i e.symm; omega)).trans (h.block i hi hne)⟩
theorem CSt.row {row : Option Nat} (h : CSt w g A n c) (k : w.grownBy w' row) (hr : ∀ j, row = some j → g < j) : CSt w' g A n c := by
  have hg := h.lt
  obtain ⟨i, B, h1, h2, h3, h4⟩ := h
  exact ⟨i, B, Blk.grown h1 k (fun e => by have := hr g e.symm; omega), h2, h3, h4.keep (Pr := (· ≤ g)) ⟨k.os, k.tape, k.output, k.size, fun j hj => k.block j (by omega) (fun e => by have := hr j e.symm; omega)⟩ (fun b q => by omega)⟩
end
/-- what Value leaves -/
def GvPost (w : World) (g : Nat) (A : Option Addr) (n c d : Nat) (e : Ending) (w' : World) : Prop :=
  ∃ s, e = .returned (.string s) ∧ ValOK d s ∧ CSt w' g A n c ∧ w.grownBy w' (some g)
def GvCon (d : Nat) : Prop := ∀ (D : Int), D = (d : Int) → ∀ (w : World) (g : Nat) (A : Option Addr) (n c : Nat), CSt w g A n c → n ≤ maxLen →
  Calls Tryz.prog 5 #[.pointer (some ⟨g, 0, none⟩), .int .i64 D] w (GvPost w g A n c d)
/-- what Values leaves -/
def GsPost (w : World) (g : Nat) (A : Option Addr) (n c d m : Nat) (e : Ending) (w' : World) : Prop :=
  ∃ (B : Option Addr) (cb L : Nat) (l : List ByteArray), e = .returned (.slice B L cb) ∧ L = l.length ∧ L < m ∧ (∀ s ∈ l, ValOK d s) ∧ w'.ownsRow w.heap.size 22 1 (.slice B L cb) L (l.map Value.string) ∧ CSt w' g A n c ∧ w.grownBy w' (some g)
def GsCon (d : Nat) : Prop := ∀ (D M : Int) (m : Nat), D = (d : Int) → M = (m : Int) → 0 < m → m ≤ 100 → ∀ (w : World) (g : Nat) (A : Option Addr) (n c : Nat), CSt w g A n c → n ≤ maxLen →
  Calls Tryz.prog 13 #[.pointer (some ⟨g, 0, none⟩), .int .i64 D, .int .i64 M] w (GsPost w g A n c d m)
/-- one string more in a row of the call's own -/
theorem grow_all {w wr : World} {g n c : Nat} {A : Option Addr} {v : Value} {L : Nat} {xs : List Value} (hC : CSt wr g A n c) (hG : w.grownBy wr (some g)) (hgl : g < w.heap.size) (s : ByteArray)
    (hO : wr.ownsRow w.heap.size 22 1 v L xs) {w4 : World} (hgrow : (wr.alloc (.cells #[.string s] 22)).grownBy w4 v.ownBlock) : CSt w4 g A n c ∧ w.grownBy w4 (some g) :=
  ⟨(hC.alloc _).row hgrow (fun j hj => by have := (hO.lt j hj).1; omega), only_row (only_alloc hG _) hgrow (fun j hj => (hO.lt j hj).1)⟩
set_option maxRecDepth 100000 in
set_option maxHeartbeats 6400000 in
theorem values_st (d : Nat) (hd : d ≤ 100) (ih : GvCon d) : GsCon d := by
  intro D M m hD hM hm hm2 w g A n c hC hn
  have IH := hide (ih D hD)
  have HC := hide hC
  have HN := Lib.hid hn
  have hgl := hC.lt
  have HK0 : Hid (w.grownBy w (some g)) := only_refl w (some g)
  obtain ⟨i0, hi0, hiz0, hiz1, hiz2⟩ := info_parts val_info
  have hD2 : D ≤ 100 := by omega
  have HNX := Lib.hid (fun (W : World) h => next_st M m hM hm (by omega) (w := W) (g := g) (n := n) (c := c) (A := A) h HN.out)
  clear hD hM hC hn ih
  go_enter Tryz.func13, Tryz.ntmps13
  go_wp2_with fail
  refine (HNX.out _ (unhide HC)).mono ?_
  rintro e w1 ⟨R, hR, rfl, hC1, hG1⟩
  have HC1 := hide hC1
  have HG1 := hide hG1
  clear hC1 hG1 HC
  go_wp2_with fail
  go_loopw [7, 8] (fun lv nv wr => ∃ (r L : Nat) (l : List ByteArray), nv = .int .i64 r ∧ r + L = R ∧ Hid (L = l.length) ∧ Hid (∀ s ∈ l, ValOK d s) ∧ Hid (wr.ownsRow w.heap.size 22 1 lv L (l.map Value.string)) ∧ Hid (CSt wr g A n c) ∧ Hid (w.grownBy wr (some g))) (fun _ nv _ => (intOf nv).toNat)
  case atStart => exact ⟨R, 0, [], rfl, by omega, rfl, fun s h => (by cases h), World.ownsRow_nil _ _ _ _, unhide HC1, unhide HG1⟩
  case round =>
    obtain ⟨r, L, l, rfl, hrL, hL, hV, hO, hC, hG⟩ := hrel
    obtain ⟨A3, c3, rfl⟩ := owns_form hO.out
    by_cases hr0 : 0 < r
    · go_wp2_with fail
      refine ((unhide IH) wr g A n c hC.out HN.out).mono ?_
      rintro e w3 ⟨s, rfl, hs3, hC3, hG3⟩
      have HS3 := Lib.hid hs3
      have HC3 := hide hC3
      have HO3 := hide (owns_other hO.out hG3 (row_g hO.out hgl))
      have HG3 := hide (only_trans hG.out hG3)
      clear hs3 hC3 hG3 hO hC hG
      have HO4 := hide ((unhide HO3).alloc (.cells #[.string s] 22))
      have hsz := (unhide HG3).size
      go_wp2_with (at_builtin; refine wpList_app _ rfl _ _ 36 rfl w.heap.size 22 i0 _ 1 16 Tryz.underlying36 hi0 hiz0 hiz1 hiz2 rfl (by decide) _ L (l.map Value.string) rfl (unhide HO4) (some ⟨w3.heap.size, 0, none⟩) 1 1 [.string s] rfl rfl (new_in w3 22 #[.string s]) (one_str s) (by unfold maxLen; omega) (by omega) (by simp; omega) ?_; intro v5 w5 hown5 hgrow5 _)
      have hall := grow_all (unhide HC3) (unhide HG3) hgl s (unhide HO3) hgrow5
      have HC5 := hide hall.1
      have HG5 := hide hall.2
      have HO5 : Hid (w5.ownsRow w.heap.size 22 1 v5 (L + 1) ((l ++ [s]).map Value.string)) := hide (by rw [List.map_append]; exact hown5)
      have HV5 : Hid (∀ x ∈ l ++ [s], ValOK d x) := Lib.hid (fun x hx => by
        rcases List.mem_append.1 hx with hx | hx
        · exact hV.out x hx
        · simp at hx; subst hx; exact HS3.out)
      clear hall hown5 hgrow5
      obtain ⟨q, rfl⟩ : ∃ q, r = q + 1 := ⟨r - 1, by omega⟩
      have hw2 : ((q : Int) + 1 - 1) = q := by omega
      go_wp2_with fail
      go_roundw
      case rel => exact ⟨q, L + 1, l ++ [s], by go_num, by omega, by rw [List.length_append, ← hL.out]; rfl, HV5.out, unhide HO5, unhide HC5, unhide HG5⟩
      case measure => simp [intOf]
    · go_wp2_with fail
      go_ret
      exact ⟨A3, c3, L, l, rfl, hL.out, by omega, hV.out, hO.out, hC.out, hG.out⟩

end Go.Proofs.YtaambeficfiacaaGreatDoor
