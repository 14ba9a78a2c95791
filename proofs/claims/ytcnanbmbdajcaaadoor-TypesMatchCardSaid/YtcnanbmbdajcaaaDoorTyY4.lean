/- The sorted keys of a map of the call's own: they ascend, and they are its keys. Condition: at most 512 keys, each within 64 bits. -/
import Derived.Test.YtcnanbmbdajcaaaDoorTyX4
import Derived.WideShapes
namespace Go.Proofs.YtcnanbmbdajcaaaDoor
open Go.RowKit Go.Sort Go.Shelf Go.Maps M

theorem SMap.owns2 {P : Program} {w : World} {g n : Nat} {M : Int → Option Value} {kt : TypeId} (h : SMap w g n M) (hn : n ≤ 512) (hkt : P.underlying kt = some (.int .i64)) :
    ∃ D : DataW Unit, w.ownsMap P kt anyR g n D ∧ (intKeys D).length ≤ n ∧ (intKeys D).Nodup ∧ ∀ k, k ∈ intKeys D ↔ (M k).isSome = true := by
  obtain ⟨xs, c, h1, h2, h3, h4, h5⟩ := h
  have hown : w.ownsMap P kt anyR g n (.map ((xs.toList.map (Go.WideElems.rg P kt anyR)).foldr DataW.insert [])) := by
    refine ⟨xs, c, h1, ⟨by unfold maxLen; omega, h2, fun x hx => ?_⟩, h4, rfl⟩
    obtain ⟨k, e, hw⟩ := h3 x hx
    refine ⟨(.int .i64 k, .nil), ?_⟩
    unfold Go.WideElems.rd
    rw [e, keyOf_int_mk hkt hw]
    rfl
  have hrg : ∀ x ∈ xs.toList, x.key = .int .i64 (Go.intOf (Go.WideElems.rg P kt anyR x).1) := by
    intro x hx
    obtain ⟨k, e, hw⟩ := h3 x hx
    have : Go.WideElems.rg P kt anyR x = (.int .i64 k, .nil) := by
      unfold Go.WideElems.rg Go.WideElems.rd
      rw [e, keyOf_int_mk hkt hw]
      rfl
    rw [this, e]; rfl
  have hp : (intKeys (.map ((xs.toList.map (Go.WideElems.rg P kt anyR)).foldr DataW.insert []) : DataW Unit)).Perm (xs.toList.map fun x => Go.intOf (Go.WideElems.rg P kt anyR x).1) := by
    have := (Go.WideShapes.sorted_perm (xs.toList.map (Go.WideElems.rg P kt anyR))).map fun p => Go.intOf p.1
    rw [List.map_map] at this
    exact this
  refine ⟨_, hown, ?_, ?_, ?_⟩
  · have hs := hown.size_le
    simpa [intKeys, Maps.size] using hs
  · refine hp.nodup_iff.2 ?_
    have hnd := h2.2.2
    refine List.pairwise_map.2 ((List.pairwise_map.1 hnd).imp_of_mem fun {a b} ha hb hne q => hne ?_)
    rw [hrg a ha, hrg b hb, q]
  · intro k
    rw [hp.mem_iff, List.mem_map]
    constructor
    · rintro ⟨x, hx, rfl⟩
      obtain ⟨i, hi⟩ := List.getElem?_of_mem hx
      rw [(h5 _ x.val).2 ⟨i, x, hi, hrg x hx, rfl⟩]; rfl
    · intro hs
      obtain ⟨v, hv⟩ := Option.isSome_iff_exists.1 hs
      obtain ⟨i, x, hi, hk, _⟩ := (h5 k v).1 hv
      have hx := List.mem_of_getElem? hi
      refine ⟨x, hx, ?_⟩
      have := hrg x hx
      rw [hk] at this
      injection this with _ this
      exact this.symm
theorem asc_of_sorted {l ss : List Int} (hp : ss.Perm l) (hn : l.Nodup) : (ss.mergeSort fun x y => decide (x ≤ y)).Pairwise (· < ·) := by
  have tr : ∀ a b c : Int, decide (a ≤ b) = true → decide (b ≤ c) = true → decide (a ≤ c) = true := fun a b c h1 h2 => by simp only [decide_eq_true_eq] at *; exact Int.le_trans h1 h2
  have to : ∀ a b : Int, (decide (a ≤ b) || decide (b ≤ a)) = true := fun a b => by simp only [Bool.or_eq_true, decide_eq_true_eq]; exact Int.le_total a b
  have h1 := List.pairwise_mergeSort (le := fun x y : Int => decide (x ≤ y)) tr to ss
  have h2 : (ss.mergeSort fun x y => decide (x ≤ y)).Nodup := (((List.mergeSort_perm ss _).trans hp).nodup_iff).2 hn
  refine (h1.and h2).imp fun {a b} q => ?_
  have := of_decide_eq_true q.1
  have := q.2
  omega
def KPost2 (n : Nat) (M : Int → Option Value) (w : World) (e : Ending) (w' : World) : Prop := ∃ (v : Value) (ss : List Int), e = .returned v ∧ ss.length ≤ n ∧ w'.ownsRow w.heap.size 3 1 v ss.length (ss.map (Value.int .i64)) ∧ Below w.heap.size w w' ∧ ss.Pairwise (· < ·) ∧ ∀ k, k ∈ ss ↔ (M k).isSome = true
theorem sortedKeys2_any (g n Bm : Nat) (M : Int → Option Value) (w : World) (h : SMap w g n M) (hn : n ≤ 512) (hBm : Bm < w.heap.size) (hm : w.cell? ⟨Bm, 0, none⟩ = some (.map (some g))) :
    Calls Tryd.prog 56 #[.func (.func 67) #[] #[.pointer (some ⟨Bm, 0, none⟩)]] w (KPost2 n M w) := by
  obtain ⟨D, hown, hlen, hnd, hmem⟩ := h.owns2 (P := Tryd.prog) (kt := 3) hn Tryd.underlying3
  have hseq : SeqGives Fence.wide 2 Tryd.prog 67 #[.pointer (some ⟨Bm, 0, none⟩)] encZ (fun ss => ss.Perm (intKeys D)) (Maps.size D) w :=
    AnyZI.keys_gives (ρ := Tryd.keysA_ren) { Tryd.keysA with } Fence.wide _ trivial rfl (by omega) Bm g n D _ hBm hm hown
  have hsz := hown.size_le
  have cS := AnyZI.sorted_in Tryd.sortedA Fence.wide 5 trivial trivial trivial trivial rfl (by omega) (sorts_any _) (enters_of Tryd.func66 (by kernel_rfl) rfl) 67 #[.pointer (some ⟨Bm, 0, none⟩)] trivial (enters_of Tryd.func67 (by kernel_rfl) rfl) _ _ (by unfold maxLen; omega) (by omega) _ hseq
  change CallsIn _ _ Tryd.prog 56 _ _ _ at cS
  refine ((callsIn_wide (n := 5)).1 cS).mono ?_
  rintro e w' ⟨v, ss, rfl, hS, hrow, _, hb⟩
  have hl : (ss.mergeSort fun x y => decide (x ≤ y)).length = ss.length := List.length_mergeSort _
  refine ⟨v, ss.mergeSort fun x y => decide (x ≤ y), rfl, by rw [hl, hS.length_eq]; exact hlen, ?_, hb, asc_of_sorted hS hnd, fun k => ?_⟩
  · rw [hl]
    exact hrow
  · rw [List.mem_mergeSort, hS.mem_iff]
    exact hmem k

end Go.Proofs.YtcnanbmbdajcaaaDoor
