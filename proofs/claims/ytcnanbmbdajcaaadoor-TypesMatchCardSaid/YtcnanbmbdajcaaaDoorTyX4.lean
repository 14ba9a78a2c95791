/- A substitution as a list of bindings: that it returns. Condition: at most 512 keys, each within 64 bits, each type at most 512 nodes. -/
import Derived.Test.YtcnanbmbdajcaaaDoorTyX1
import Derived.Test.YtcnanbmbdajcaaaDoorMapS
import Derived.Test.YtcnanbmbdajcaaaDoorShS
import Derived.Lib.SlKeysI
import Derived.Sort.OwnSorted
import Derived.Shelf.SlIterI.Nil
namespace Go.Proofs.YtcnanbmbdajcaaaDoor
open Go.RowKit Go.Sort Go.Shelf Go.Maps M

theorem sorts_any (m : Nat) : AnyZI.SortsIn Tryd.prog Tryd.sortedA_ren Fence.wide m :=
  ⟨fun blk off cap ss W hH hblk hsz => callsIn_wide.2 (AnyM.slices_Sort_int Tryd.sortA blk off cap ss W hH hblk hsz), fun p cap W => callsIn_wide.2 (AnyM.slices_Sort_int_none Tryd.sortA p cap W)⟩
abbrev anyR : Value → Option (DataW Unit × List MemPlace) := fun _ => some (.nil, [])
theorem SMap.owns {P : Program} {w : World} {g n : Nat} {M : Int → Option Value} {kt : TypeId} (h : SMap w g n M) (hn : n ≤ 512) (hkt : P.underlying kt = some (.int .i64)) :
    ∃ D : DataW Unit, w.ownsMap P kt anyR g n D ∧ (intKeys D).length ≤ n := by
  obtain ⟨xs, c, h1, h2, h3, h4, _⟩ := h
  have hown : w.ownsMap P kt anyR g n (.map ((xs.toList.map (Go.WideElems.rg P kt anyR)).foldr DataW.insert [])) := by
    refine ⟨xs, c, h1, ⟨by unfold maxLen; omega, h2, fun x hx => ?_⟩, h4, rfl⟩
    obtain ⟨k, e, hw⟩ := h3 x hx
    refine ⟨(.int .i64 k, .nil), ?_⟩
    unfold Go.WideElems.rd
    rw [e, keyOf_int_mk hkt hw]
    rfl
  refine ⟨_, hown, ?_⟩
  have hs := hown.size_le
  simpa [intKeys, Maps.size] using hs
theorem keys_any (mb : Option Nat) (W : World) :
    Calls Tryd.prog 57 #[.map mb] W fun e w' => e = .returned (.func (.func 67) #[] #[.pointer (some ⟨W.heap.size, 0, none⟩)]) ∧ w' = W.alloc (.cells #[.map mb] 68) :=
  (callsIn_wide (n := 5)).1 (AnyZI.keys_in Tryd.keysA Fence.wide 5 trivial rfl mb W)
def KPost (n : Nat) (w : World) (e : Ending) (w' : World) : Prop := ∃ (v : Value) (ss : List Int), e = .returned v ∧ ss.length ≤ n ∧ w'.ownsRow w.heap.size 3 1 v ss.length (ss.map (Value.int .i64)) ∧ Below w.heap.size w w'
theorem sortedKeys_any (g n Bm : Nat) (M : Int → Option Value) (w : World) (h : SMap w g n M) (hn : n ≤ 512) (hBm : Bm < w.heap.size) (hm : w.cell? ⟨Bm, 0, none⟩ = some (.map (some g))) :
    Calls Tryd.prog 56 #[.func (.func 67) #[] #[.pointer (some ⟨Bm, 0, none⟩)]] w (KPost n w) := by
  obtain ⟨D, hown, hlen⟩ := h.owns (P := Tryd.prog) (kt := 3) hn Tryd.underlying3
  have hseq : SeqGives Fence.wide 2 Tryd.prog 67 #[.pointer (some ⟨Bm, 0, none⟩)] encZ (fun ss => ss.Perm (intKeys D)) (Maps.size D) w :=
    AnyZI.keys_gives (ρ := Tryd.keysA_ren) { Tryd.keysA with } Fence.wide _ trivial rfl (by omega) Bm g n D _ hBm hm hown
  have hsz := hown.size_le
  have cS := AnyZI.sorted_in Tryd.sortedA Fence.wide 5 trivial trivial trivial trivial rfl (by omega) (sorts_any _) (enters_of Tryd.func66 (by kernel_rfl) rfl) 67 #[.pointer (some ⟨Bm, 0, none⟩)] trivial (enters_of Tryd.func67 (by kernel_rfl) rfl) _ _ (by unfold maxLen; omega) (by omega) _ hseq
  change CallsIn _ _ Tryd.prog 56 _ _ _ at cS
  refine ((callsIn_wide (n := 5)).1 cS).mono ?_
  rintro e w' ⟨v, ss, rfl, hS, hrow, _, hb⟩
  have hl : (ss.mergeSort fun x y => decide (x ≤ y)).length = ss.length := List.length_mergeSort _
  refine ⟨v, ss.mergeSort fun x y => decide (x ≤ y), rfl, by rw [hl, hS.length_eq]; exact hlen, ?_, hb⟩
  rw [hl]
  exact hrow

end Go.Proofs.YtcnanbmbdajcaaaDoor
