/- slices.Sorted(slices.Values(s)) at ints: a new slice that holds the same numbers, ascending. Condition: at most 16777216 numbers. -/
import Derived.Test.YtgdmmkgdnfkadaaDoorItI
import Derived.Test.YtgdmmkgdnfkadaaDoorShS
import Derived.Lib.SlKeysI
import Derived.Sort.OwnSorted
namespace Go.Proofs.YtgdmmkgdnfkadaaDoor
open Go.RowKit Go.Sort Go.Shelf Go.Maps

theorem values_any (a : Option Addr) (len cap : Nat) (w : World) :
    Calls Tryd.prog 65 #[.slice a len cap] w fun e w' => e = .returned (.func (.func 88) #[] #[.pointer (some ⟨w.heap.size, 0, none⟩)]) ∧ w' = w.alloc (.cells #[.slice a len cap] 23) :=
  (callsIn_wide (n := 1)).1 (values_in Fence.wide 1 trivial rfl a len cap w)
theorem appendSeq_any (Bs : Nat) (sv : Value) (zs : List Int) (hlen : zs.length ≤ 16777216) (w : World) (hBs : Bs < w.heap.size) (hc : w.cell? ⟨Bs, 0, none⟩ = some sv) (hI : IntsIn w.heap.size w sv zs) :
    Calls Tryd.prog 96 #[.slice none 0 0, .func (.func 88) #[] #[.pointer (some ⟨Bs, 0, none⟩)]] w fun e W' => ∃ v, e = .returned v ∧ W'.ownsRow w.heap.size 3 1 v zs.length (zs.map (Value.int .i64)) ∧ (v = .slice none 0 0 ↔ zs = []) ∧ Below w.heap.size w W' :=
  (callsIn_wide (n := 3)).1 (appendSeq_in Fence.wide 3 trivial trivial rfl (by omega) Bs sv zs hlen w hBs hc hI)
def CollPost (zs : List Int) (w : World) (e : Ending) (W' : World) : Prop := ∃ v, e = .returned v ∧ W'.ownsRow w.heap.size 3 1 v zs.length (zs.map (Value.int .i64)) ∧ (v = .slice none 0 0 ↔ zs = []) ∧ Below w.heap.size w W'
theorem collect_any (Bs : Nat) (sv : Value) (zs : List Int) (hlen : zs.length ≤ 16777216) (w : World) (hBs : Bs < w.heap.size) (hc : w.cell? ⟨Bs, 0, none⟩ = some sv) (hI : IntsIn w.heap.size w sv zs) :
    Calls Tryd.prog 86 #[.func (.func 88) #[] #[.pointer (some ⟨Bs, 0, none⟩)]] w (CollPost zs w) := by
  have CA := hide (appendSeq_any Bs sv zs hlen w hBs hc hI)
  clear hc hI
  go_enter Tryd.func86, Tryd.ntmps86
  go_wp2_with fail
  refine (unhide CA).mono ?_
  rintro e w1 ⟨v, rfl, hr, hn, hb⟩
  have HR := hide hr
  have HNN := hide hn
  clear hr hn
  go_wp2_with fail
  go_ret
  exact ⟨v, rfl, unhide HR, unhide HNN, hb⟩
abbrev sortI (zs : List Int) : List Int := zs.mergeSort fun x y => decide (x ≤ y)
def SortPost (zs : List Int) (w : World) (e : Ending) (w' : World) : Prop := ∃ v, e = .returned v ∧ w'.ownsRow w.heap.size 3 1 v (sortI zs).length ((sortI zs).map (Value.int .i64)) ∧ Below w.heap.size w w'
theorem sortI_len (zs : List Int) : (sortI zs).length = zs.length := List.length_mergeSort _
theorem sort_some (blk off cap : Nat) (zs : List Int) (w : World) (hH : Holds encZ w blk off zs.toArray) (hblk : blk < w.heap.size) (hsz : zs.length < 4611686018427387904) :
    Calls Tryd.prog 87 #[.slice (some ⟨blk, off, none⟩) zs.length cap] w fun e w' => e = .returned (.tuple #[]) ∧ ∃ n os, w' = grow (putRow encZ (Sort.ahead w n) blk off (sortI zs).toArray) os :=
  AnyM.slices_Sort_int Tryd.sortA blk off cap zs w hH hblk hsz
theorem sort_none (p : Option Addr) (cap : Nat) (w : World) : Calls Tryd.prog 87 #[.slice p 0 cap] w fun e w' => e = .returned (.tuple #[]) ∧ w' = w :=
  AnyM.slices_Sort_int_none Tryd.sortA p cap w

set_option maxHeartbeats 1000000 in
theorem sortedVals_any (Bs : Nat) (sv : Value) (zs : List Int) (hlen : zs.length ≤ 16777216) (w : World) (hBs : Bs < w.heap.size) (hc : w.cell? ⟨Bs, 0, none⟩ = some sv) (hI : IntsIn w.heap.size w sv zs) :
    Calls Tryd.prog 64 #[.func (.func 88) #[] #[.pointer (some ⟨Bs, 0, none⟩)]] w (SortPost zs w) := by
  have CC := hide (collect_any Bs sv zs hlen w hBs hc hI)
  clear hc hI
  go_enter Tryd.func64, Tryd.ntmps64
  go_wp2_with fail
  refine (unhide CC).mono ?_
  rintro e w1 ⟨v, rfl, hr, hn, hb⟩
  have HR := hide hr
  have HB := hide hb
  clear hn hb
  rcases hr.2 with ⟨rfl, hz⟩ | ⟨gb, cap, cur, rfl, hbase, hgb, r1, r2, r3, r4⟩
  · have hss : zs = [] := List.eq_nil_of_length_eq_zero hz
    subst hss
    clear hr hz
    go_wp2_with fail
    refine (sort_none none 0 w1).mono ?_
    rintro e w2 ⟨rfl, rfl⟩
    go_wp2_with fail
    go_ret
    exact ⟨_, rfl, by simpa [sortI] using unhide HR, unhide HB⟩
  · have hH : Holds encZ w1 gb 0 zs.toArray := holds_of_block_i hgb (by simpa using r4)
    have hgl : gb < w1.heap.size := (Array.getElem?_eq_some_iff.1 hgb).1
    have CS := hide (sort_some gb 0 cap zs w1 hH hgl (by omega))
    have hfin : ∀ n os, (grow (putRow encZ (Sort.ahead w1 n) gb 0 (sortI zs).toArray) os).ownsRow w.heap.size 3 1 (.slice (some ⟨gb, 0, none⟩) zs.length cap) zs.length ((sortI zs).map encZ) ∧ Below w.heap.size w (grow (putRow encZ (Sort.ahead w1 n) gb 0 (sortI zs).toArray) os) := fun n os =>
      ⟨ownsRow_sorted_i (by simp) hbase hgb r1 r2 r3, (unhide HB).grown (grownBy_sorted_i _) (unhide HB).size (fun j hj => by cases hj; exact hbase)⟩
    have HF := hide hfin
    clear hr r4 hgb hH hfin r3
    go_wp2_with fail
    refine (unhide CS).mono ?_
    rintro e w2 ⟨rfl, nn, os, hw2⟩
    have HQ := unhide HF nn os
    rw [← hw2] at HQ
    have HQ2 := hide HQ
    clear HQ hw2 HF
    go_wp2_with fail
    go_ret
    exact ⟨_, rfl, by rw [sortI_len]; exact (unhide HQ2).1, (unhide HQ2).2⟩

end Go.Proofs.YtgdmmkgdnfkadaaDoor
