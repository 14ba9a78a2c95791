/- finset's Member and Range. Conditions: strings of at most 2^48 bytes; the numbers are of 64 bits. -/
import Derived.Test.YtkdlmgahkckjbaaGreatFnI
import Derived.Test.YtkdlmgahkckjbaaGreatVpI
namespace Go.Proofs.YtkdlmgahkckjbaaGreat
open Go.RowKit Go.Shelf VM

/-- a bool and an error -/
def RetB (w : World) (r : Bool × Int) (e : Ending) (w' : World) : Prop := e = .returned (.tuple #[.bool r.1, .int .i64 r.2]) ∧ Below w.heap.size w w'
def memM (v a : ByteArray) : Bool × Int := if valB 32 v = true ∧ isK 5 a = true then (hasB v (pt a), 0) else (false, 6)
/-! Range -/
def rangeL (a : Int) (n : Nat) : List ByteArray := (List.range n).map fun i : Nat => intB (a + (i : Int))
def rangeM (a b : Int) : ByteArray × Int := if a > b then (setM [], 0) else if b - a ≥ 4096 then (⟨#[]⟩, 9) else bnd (rangeL a (b - a + 1).toNat)
theorem rangeL_len (a : Int) (n : Nat) : (rangeL a n).length = n := by unfold rangeL; simp
theorem rangeL_succ (a : Int) (n : Nat) : rangeL a (n + 1) = rangeL a n ++ [intB (a + (n : Int))] := by unfold rangeL; rw [List.range_succ, List.map_append]; rfl
theorem intB_inj {a b : Int} (ha : -9223372036854775808 ≤ a ∧ a ≤ 9223372036854775807) (hb : -9223372036854775808 ≤ b ∧ b ≤ 9223372036854775807) (h : intB a = intB b) : a = b := by
  have h1 : bs (intB a) = bs (intB b) := by rw [h]
  have h2 : 1 :: eightL a = 1 :: eightL b := h1
  have h3 := congrArg numL (List.cons.inj h2).2
  rwa [numL_eight a ha.1 ha.2, numL_eight b hb.1 hb.2] at h3
theorem rangeL_nodup (a : Int) : ∀ n : Nat, -9223372036854775808 ≤ a → a + (n : Int) ≤ 9223372036854775808 → (rangeL a n).Nodup
  | 0, _, _ => List.nodup_nil
  | n + 1, h1, h2 => by
    rw [rangeL_succ, List.nodup_append]
    refine ⟨rangeL_nodup a n h1 (by omega), by simp, fun u hu v hv e => ?_⟩
    rw [List.mem_singleton.1 hv] at e
    unfold rangeL at hu
    obtain ⟨i, hi, rfl⟩ := List.mem_map.1 hu
    have := List.mem_range.1 hi
    have := intB_inj (by omega) (by omega) e
    omega
theorem rangeL_size (a : Int) (n : Nat) : ∀ s ∈ rangeL a n, s.size = 9 := fun s hs => by
  unfold rangeL at hs
  obtain ⟨i, _, rfl⟩ := List.mem_map.1 hs
  exact intB_size _
set_option linter.unusedSimpArgs false in
set_option maxRecDepth 100000 in
set_option maxHeartbeats 6400000 in
theorem pRange_any (a b : Int) (ha : -9223372036854775808 ≤ a ∧ a ≤ 9223372036854775807) (hb : -9223372036854775808 ≤ b ∧ b ≤ 9223372036854775807) (w : World) :
    Calls Tryz.prog 10 #[.int .i64 a, .int .i64 b] w (RetV w (rangeM a b)) := by
  by_cases h1 : a > b
  · have HR : Hid (rangeM a b = (setM [], 0)) := Lib.hid (by unfold rangeM; rw [if_pos h1])
    have HS := hide (pset_any [] none 0 0 w rfl (by omega) (fun s h => by cases h) (InC.nil _ _))
    rw [set_same] at HS
    change Hid (Calls _ _ _ _ fun e w' => e = .returned (.string (setM [])) ∧ _) at HS
    generalize setM [] = m at *
    go_enter Tryz.func10, Tryz.ntmps10
    go_wp2_with fail
    refine (unhide HS).mono ?_
    rintro e w1 ⟨rfl, hb1⟩
    have HB1 := hide hb1
    clear hb1
    go_wp2_with fail
    go_ret2
    exact ⟨by rw [HR.out]; rfl, unhide HB1⟩
  · have hw : ∀ z : Int, IntKind.u64.wrap z = z % 18446744073709551616 := fun z => by simp [IntKind.wrap, IntKind.signed, IntKind.bits]
    have hd : IntKind.u64.wrap (IntKind.u64.wrap b - IntKind.u64.wrap a) = b - a := by rw [hw, hw, hw]; omega
    clear hw
    by_cases h2 : b - a ≥ 4096
    · have HR : Hid (rangeM a b = (⟨#[]⟩, 9)) := Lib.hid (by unfold rangeM; rw [if_neg h1, if_pos h2])
      go_enter Tryz.func10, Tryz.ntmps10
      go_wp2_with fail
      go_ret2
      exact ⟨by rw [HR.out]; rfl, Below.refl _ _⟩
    · obtain ⟨d, hd2⟩ : ∃ d : Nat, b - a = (d : Int) := ⟨(b - a).toNat, by omega⟩
      have hd4 : d < 4096 := by omega
      have HR : Hid (rangeM a b = bnd (rangeL a (d + 1))) := Lib.hid (by
        unfold rangeM
        rw [if_neg h1, if_neg h2]
        congr 2
        omega)
      have hab : a + (d : Int) = b := by omega
      have hle : ∀ k : Nat, k ≤ d → -9223372036854775808 ≤ a + (k : Int) ∧ a + (k : Int) ≤ 9223372036854775807 := fun k hk => by omega
      have HLE := Lib.hid hle
      have HCO := Lib.hid (fun Bs A n c hn w hBs hc hI => coll_any Bs A n c (rangeL a (d + 1)) (fun s hs => by rw [rangeL_size a _ s hs]; omega) (fun _ => rangeL_nodup a (d + 1) ha.1 (by omega)) (by rw [rangeL_len]; omega) hn w hBs hc hI)
      have HPI := Lib.hid (fun z w => pint_any z w)
      have HSU := Lib.hid (fun k => rangeL_succ a k)
      rw [hd2] at hd
      obtain ⟨i0, hi0, hiz0, hiz1, hiz2⟩ := info_parts val_info
      have g1 : ¬ (b < a) := by omega
      clear h2 hd2 hab hle
      go_enter Tryz.func10, Tryz.ntmps10
      go_wp2_with fail
      go_loopw [7, 23] (fun kv iv wr => ∃ (k : Nat), iv = .int .i64 k ∧ k ≤ d + 1 ∧ Hid (wr.ownsRow w.heap.size 27 1 kv k ((rangeL a k).map Value.string)) ∧ Hid (Below w.heap.size w wr)) (fun _ iv _ => d + 1 - (intOf iv).toNat)
      case atStart => exact ⟨0, rfl, by omega, World.ownsRow_nil _ _ _ _, Below.refl _ _⟩
      case round =>
        obtain ⟨k, rfl, hk, hO, hB⟩ := hrel
        obtain ⟨A4, c4, rfl⟩ := owns_form hO.out
        by_cases hkL : k < d + 1
        · have gk : decide ((k : Int) < (d : Int) + 1) = true := decide_eq_true (by omega)
          have hz := HLE.out k (by omega)
          obtain ⟨z, hzz⟩ : ∃ z, z = a + (k : Int) := ⟨_, rfl⟩
          have wz : IntKind.i64.wrap (a + (k : Int)) = z := by rw [hzz]; exact IntWalk.i64_in _ hz
          have HS2 := Lib.hid (HSU.out k)
          rw [← hzz] at HS2
          clear hzz hz
          go_wp2_with fail
          refine (HPI.out z _).mono ?_
          rintro e w5 ⟨rfl, hb5⟩
          have HB5 := hide (hB.out.trans (hb5.mono hB.out.size))
          have HO5 := hide (owns_below hO.out hb5)
          clear hb5 hO hB
          generalize intB z = v at *
          have HO4 := hide ((unhide HO5).alloc (.cells #[.string v] 27))
          have HB4 := hide ((unhide HB5).alloc (unhide HB5).size (.cells #[.string v] 27))
          have hz4 := (unhide HB4).size
          go_wp2_with (at_builtin; refine wpList_app _ rfl _ _ 22 rfl w.heap.size 27 i0 _ 1 16 Tryz.underlying22 hi0 hiz0 hiz1 hiz2 rfl (by decide) _ k ((rangeL a k).map Value.string) rfl (unhide HO4) (some ⟨w5.heap.size, 0, none⟩) 1 1 [.string v] rfl rfl (new_in w5 27 #[.string v]) (one_str v) (by unfold maxLen; omega) (by omega) hz4 ?_; intro v6 w6 hown6 hgrow6 _)
          have HB6 := hide (below_app (unhide HB4) (unhide HO4) hgrow6)
          have HO6 : Hid (w6.ownsRow w.heap.size 27 1 v6 (k + 1) ((rangeL a (k + 1)).map Value.string)) := hide (by rw [HS2.out, List.map_append]; exact hown6)
          clear hown6 hgrow6
          go_wp2_with fail
          go_roundw
          case rel => exact ⟨k + 1, by go_num, by omega, unhide HO6, unhide HB6⟩
          case measure => simp [intOf]; omega
        · obtain rfl : k = d + 1 := by omega
          have HI := hide (InC.own hO.out)
          have HB4 := hide hB.out
          clear hO hB
          generalize wr = w5 at *
          go_wp2_with fail
          refine (vals_any A4 (d + 1) c4 w5).mono ?_
          rintro e w6 ⟨rfl, rfl⟩
          have HCC := hide (HCO.out w5.heap.size A4 (d + 1) c4 (rangeL_len a (d + 1)).symm (w5.alloc (.cells #[.slice A4 (d + 1) c4] 22)) (by simp) ((Blk.new w5 22 #[.slice A4 (d + 1) c4]).cell 0) ((unhide HI).alloc _))
          have HB6 := hide ((unhide HB4).alloc (unhide HB4).size (.cells #[.slice A4 (d + 1) c4] 22))
          go_wp2_with fail
          refine (unhide HCC).mono ?_
          rintro e w7 ⟨rfl, hb7⟩
          have HB7 := hide ((unhide HB6).trans (hb7.mono (unhide HB6).size))
          clear hb7
          go_wp2_with fail
          go_ret2
          exact ⟨by rw [HR.out]; rfl, unhide HB7⟩

end Go.Proofs.YtkdlmgahkckjbaaGreat
