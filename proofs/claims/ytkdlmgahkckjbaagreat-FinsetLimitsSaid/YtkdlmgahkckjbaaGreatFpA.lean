/- The reference's Range. The numbers are of 64 bits. -/
import Derived.Test.YtkdlmgahkckjbaaGreatFnN
namespace Go.Proofs.YtkdlmgahkckjbaaGreat
open Go.RowKit Go.Shelf VM

set_option linter.unusedSimpArgs false in
set_option maxRecDepth 100000 in
set_option maxHeartbeats 6400000 in
theorem rRange_any (a b : Int) (ha : -9223372036854775808 ≤ a ∧ a ≤ 9223372036854775807) (hb : -9223372036854775808 ≤ b ∧ b ≤ 9223372036854775807) (w : World) :
    Calls Tryz.prog 11 #[.int .i64 a, .int .i64 b] w (RetV w (rangeM a b)) := by
  have HRI := Lib.hid (fun z w => rint_any z w)
  have HBN := Lib.hid (fun k A n c w (hk : k ≤ 4096) (hn : n = k) hr => rbounded_any (rangeL a k) A n c w (by rw [rangeL_len]; exact hn) (by omega) (fun s hs => by rw [rangeL_size a _ s hs]; omega) hr)
  have HSU := Lib.hid (fun k => rangeL_succ a k)
  have HBIG : Hid (b - a ≥ 4096 → rangeM a b = (⟨#[]⟩, 9)) := Lib.hid (fun h => by unfold rangeM; rw [if_neg (by omega), if_pos h])
  have HALL : Hid (∀ k : Nat, k ≤ 4096 → (k = 0 ∨ a + (k : Int) ≤ b + 1) → (b < a + (k : Int)) → bnd (rangeL a k) = rangeM a b) := Lib.hid (fun k h4 h1 h2 => by
    unfold rangeM
    by_cases h : a > b
    · have : k = 0 := by omega
      subst this
      rw [if_pos h]
      exact small_bnd small_nil
    · have e : k = (b - a + 1).toNat := by omega
      rw [if_neg h, if_neg (by omega), e])
  have HAA := Lib.hid ha
  have HBB := Lib.hid hb
  have HL0 : Hid (rangeL a 0 = []) := Lib.hid rfl
  obtain ⟨i0, hi0, hiz0, hiz1, hiz2⟩ := info_parts val_info
  generalize rangeM a b = r at *
  clear ha hb
  go_enter Tryz.func11, Tryz.ntmps11
  go_wp2_with fail
  go_loopw [6, 7] (fun kv nv wr => ∃ (k : Nat) (z : Int), nv = .int .i64 z ∧ k ≤ 4096 ∧ Hid (z = a + (k : Int)) ∧ Hid (k = 0 ∨ a + (k : Int) ≤ b + 1) ∧ Hid (wr.ownsRow w.heap.size 27 1 kv k ((rangeL a k).map Value.string)) ∧ Hid (Below w.heap.size w wr)) (fun _ nv _ => (9223372036854775808 - intOf nv).toNat)
  case atStart => exact ⟨0, a, rfl, by omega, Lib.hid (by simp), .inl rfl, by rw [HL0.out]; exact World.ownsRow_nil _ _ _ _, Below.refl _ _⟩
  case round =>
    obtain ⟨k, z, rfl, hk, hz, hkb, hO, hB⟩ := hrel
    obtain ⟨A4, c4, rfl⟩ := owns_form hO.out
    by_cases hzb : z ≤ b
    · by_cases hk4 : 4096 ≤ k
      · have HR : Hid (r = (⟨#[]⟩, 9)) := Lib.hid (HBIG.out (by have := hz.out; omega))
        have HB4 := hide hB.out
        clear hO hB hz hkb
        go_wp2_with fail
        go_ret2
        exact ⟨by rw [HR.out]; rfl, unhide HB4⟩
      · have HS := Lib.hid (fun w => rint_any z w)
        have HZ : Hid (rangeL a (k + 1) = rangeL a k ++ [intB z]) := Lib.hid (by rw [HSU.out, hz.out])
        have HO4 := hide hO.out
        have HB4 := hide hB.out
        generalize intB z = s at *
        clear hO hB
        go_wp2_with fail
        refine (HS.out _).mono ?_
        rintro e w5 ⟨rfl, hb5⟩
        have HO5 := hide ((owns_below (unhide HO4) hb5).alloc (.cells #[.string s] 27))
        have hB5 := (unhide HB4).trans (hb5.mono (unhide HB4).size)
        have HB5 := hide (hB5.alloc hB5.size (.cells #[.string s] 27))
        have hz5 := (unhide HB5).size
        clear hb5 hB5
        go_wp2_with (at_builtin; refine wpList_app _ rfl _ _ 22 rfl w.heap.size 27 i0 _ 1 16 Tryz.underlying22 hi0 hiz0 hiz1 hiz2 rfl (by decide) _ k ((rangeL a k).map Value.string) rfl (unhide HO5) (some ⟨w5.heap.size, 0, none⟩) 1 1 [.string s] rfl rfl (new_in w5 27 #[.string s]) (one_str s) (by unfold maxLen; omega) (by omega) hz5 ?_; intro v6 w6 hown6 hgrow6 _)
        have HB6 := hide (below_app (unhide HB5) (unhide HO5) hgrow6)
        have HO6 : Hid (w6.ownsRow w.heap.size 27 1 v6 (k + 1) ((rangeL a (k + 1)).map Value.string)) := hide (by rw [HZ.out, List.map_append]; exact hown6)
        clear hown6 hgrow6
        by_cases hmax : z = 9223372036854775807
        · obtain ⟨A7, c7, rfl⟩ := owns_form (unhide HO6)
          have HI6 := hide (InC.own (unhide HO6))
          have HR : Hid (bnd (rangeL a (k + 1)) = r) := Lib.hid (HALL.out (k + 1) (by omega) (.inr (by have := hz.out; push_cast; omega)) (by have := hz.out; have := HBB.out; push_cast; omega))
          have HX := hide (HBN.out (k + 1) A7 (k + 1) c7 w6 (by omega) rfl (unhide HI6))
          rw [HR.out] at HX
          subst hmax
          clear hz hkb
          go_wp2_with fail
          refine (unhide HX).mono ?_
          rintro e w7 ⟨rfl, hb7⟩
          have HB7 := hide ((unhide HB6).trans (hb7.mono (unhide HB6).size))
          clear hb7
          go_wp2_with fail
          go_ret2
          exact ⟨rfl, unhide HB7⟩
        · have gw : wrap64 (z + 1) = z + 1 := IntWalk.wrap64_in _ (by have := hz.out; have := HAA.out; have := HBB.out; omega)
          have hzl : z < 9223372036854775807 := by have := HBB.out; omega
          have hzm : (z == 9223372036854775807) = false := by simpa using hmax
          go_wp2_with fail
          exact absurd (show (z == 9223372036854775807) = true by assumption) (by rw [hzm]; decide)
        case roundEnd =>
          rename_i hzq
          have HB6 := hide (below_app (unhide HB5) (unhide HO5) hgrow6)
          have HO6 : Hid (w6.ownsRow w.heap.size 27 1 v6 (k + 1) ((rangeL a (k + 1)).map Value.string)) := hide (by rw [HZ.out, List.map_append]; exact hown6)
          have hmax : ¬ z = 9223372036854775807 := by simpa using hzq
          have gw : wrap64 (z + 1) = z + 1 := IntWalk.wrap64_in _ (by have := hz.out; have := HAA.out; have := HBB.out; omega)
          have hzl : z < 9223372036854775807 := by have := HBB.out; omega
          rw [gw]
          exact ⟨⟨k + 1, z + 1, rfl, by omega, Lib.hid (by have := hz.out; push_cast; omega), Lib.hid (.inr (by have := hz.out; push_cast; omega)), unhide HO6, unhide HB6⟩, by simp [intOf]; omega⟩
    · have HI4 := hide (InC.own hO.out)
      have HR : Hid (bnd (rangeL a k) = r) := Lib.hid (HALL.out k hk hkb.out (by have := hz.out; omega))
      have HX := hide (HBN.out k A4 k c4 wr hk rfl (unhide HI4))
      have HB4 := hide hB.out
      rw [HR.out] at HX
      clear hO hB hz hkb
      go_wp2_with fail
      refine (unhide HX).mono ?_
      rintro e w7 ⟨rfl, hb7⟩
      have HB7 := hide ((unhide HB4).trans (hb7.mono (unhide HB4).size))
      clear hb7
      go_wp2_with fail
      go_ret2
      exact ⟨rfl, unhide HB7⟩

end Go.Proofs.YtkdlmgahkckjbaaGreat
