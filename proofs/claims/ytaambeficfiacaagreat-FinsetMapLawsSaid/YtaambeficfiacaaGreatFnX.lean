/- The reference's Subsets. Conditions: strings of at most 2^48 bytes. -/
import Derived.Test.YtaambeficfiacaaGreatFnV
namespace Go.Proofs.YtaambeficfiacaaGreat
open Go.RowKit Go.Shelf VM

theorem subL_take (l : List ByteArray) : subL l = (List.range (2 ^ l.length)).map fun m => setM (subM l m) := rfl
def subT (l : List ByteArray) (k : Nat) : List ByteArray := (List.range k).map fun m => setM (subM l m)
theorem subT_succ (l : List ByteArray) (k : Nat) : subT l (k + 1) = subT l k ++ [setM (subM l k)] := by unfold subT; rw [List.range_succ, List.map_append]; rfl
set_option linter.unusedSimpArgs false in
set_option maxRecDepth 100000 in
set_option maxHeartbeats 6400000 in
theorem rSubsets_any (x : ByteArray) (hx : x.size ≤ 281474976710656) (w : World) :
    Calls Tryz.prog 55 #[.string x] w (RetV w (subsetM x)) := by
  have HX := hide (sets_one x hx w)
  have HB0 : Hid (Below w.heap.size w (w.alloc (.cells #[.string x] 22))) := hide ((Below.refl _ _).alloc (Nat.le_refl _) _)
  cases h5 : isK 5 x with
  | false =>
    have HR : Hid (subsetM x = (⟨#[]⟩, 6)) := Lib.hid (by unfold subsetM; rw [h5]; rfl)
    rw [h5] at HX
    clear h5
    go_enter Tryz.func55, Tryz.ntmps55
    go_wp2_with fail
    refine (unhide HX).mono ?_
    rintro e w1 ⟨rfl, hb1⟩
    have HB1 := hide ((unhide HB0).trans (hb1.mono (by omega)))
    clear hb1
    go_wp2_with fail
    go_ret2
    exact ⟨by rw [HR.out]; rfl, unhide HB1⟩
  | true =>
    have HPX := Lib.hid (fun w => rpartsO_any x hx w)
    have HAS := Lib.hid (pt_set h5).1
    have HSZ := Lib.hid (pt_size48 x)
    have HLE := Lib.hid (pt_len x)
    have HR0 : Hid (subsetM x = if (pt x).length ≥ 13 then (⟨#[]⟩, 9) else bnd (subL (pt x))) := Lib.hid (by unfold subsetM; rw [if_pos h5])
    rw [h5] at HX
    generalize subsetM x = r at *
    generalize pt x = ps at *
    obtain ⟨i0, hi0, hiz0, hiz1, hiz2⟩ := info_parts val_info
    clear h5
    go_enter Tryz.func55, Tryz.ntmps55
    go_wp2_with fail
    refine (unhide HX).mono ?_
    rintro e w1 ⟨rfl, hb1⟩
    have HB1 := hide ((unhide HB0).trans (hb1.mono (by omega)))
    clear hb1
    go_wp2_with fail
    refine (HPX.out _).mono ?_
    rintro e w3 ⟨S3, c3, n3, rfl, hn3, hO3, hb3⟩
    have HB3 := hide ((unhide HB1).trans (hb3.mono (unhide HB1).size))
    have HN3 := Lib.hid hn3
    have hn6 : n3 ≤ 65536 := by rw [hn3]; exact HLE.out
    have HI3 := hide (InC.own hO3)
    clear hb3 hn3 hO3
    by_cases h13 : 13 ≤ n3
    · have HR : Hid (r = (⟨#[]⟩, 9)) := Lib.hid (by rw [HR0.out, if_pos (by rw [← HN3.out]; exact h13)])
      go_wp2_with fail
      go_ret2
      exact ⟨by rw [HR.out]; rfl, unhide HB3⟩
    · obtain ⟨N, hN⟩ : ∃ N, N = 2 ^ n3 := ⟨_, rfl⟩
      have hN64 : N ≤ 4096 := by rw [hN]; exact Nat.le_trans (Nat.pow_le_pow_right (by omega) (show n3 ≤ 12 by omega)) (by decide)
      have hwN : wrap64 ((2 : Int) ^ n3) = (N : Int) := by
        have e : ((2 : Int) ^ n3) = ((2 ^ n3 : Nat) : Int) := by simp
        rw [e, ← hN]; exact IntWalk.wrap64_in _ (by omega)
      have HTL : Hid (subT ps N = subL ps) := Lib.hid (by rw [hN, HN3.out]; rfl)
      have HR : Hid (r = bnd (subL ps)) := Lib.hid (by rw [HR0.out, if_neg (by rw [← HN3.out]; exact h13)])
      have HLT : Hid ((subL ps).length = N) := Lib.hid (by rw [← HTL.out]; unfold subT; simp)
      have HBN := Lib.hid (fun A n c w (hn : n = (subL ps).length) hr => rbounded_any (subL ps) A n c w hn (by rw [hn, HLT.out]; omega) (fun s hs => by
        obtain ⟨m, _, rfl⟩ := List.mem_map.1 hs
        have := setM_size (subM ps m); omega) hr)
      have HN := Lib.hid hN
      clear hN
      have hn12 : n3 ≤ 12 := by omega
      clear h13
      go_wp2_with fail
      go_loopw [5, 6] (fun kv iv wr => ∃ (m : Nat), iv = .int .i64 m ∧ m ≤ N ∧ Hid (wr.ownsRow w3.heap.size 22 1 kv m ((subT ps m).map Value.string)) ∧ Hid (Below w3.heap.size w3 wr)) (fun _ iv _ => N - (intOf iv).toNat)
      case atStart => exact ⟨0, rfl, by omega, World.ownsRow_nil _ _ _ _, Below.refl _ _⟩
      case round =>
        obtain ⟨m, rfl, hm, hO, hB⟩ := hrel
        obtain ⟨A4, c4, rfl⟩ := owns_form hO.out
        by_cases hmN : m < N
        · rename World => w1
          have HO1 := hide hO.out
          have HBM := hide hB.out
          clear hO hB
          go_wp2_with fail
          rw [hwN]
          go_loopw [7, 8] (fun kv iv wr => ∃ (i q : Nat), iv = .int .i64 i ∧ i ≤ n3 ∧ q ≤ i ∧ Hid (q = (subM (ps.take i) m).length) ∧ Hid (wr.ownsRow w1.heap.size 22 1 kv q ((subM (ps.take i) m).map Value.string)) ∧ Hid (Below w1.heap.size w1 wr)) (fun _ iv _ => n3 - (intOf iv).toNat)
          case atStart => exact ⟨0, 0, rfl, Nat.zero_le _, Nat.le_refl _, rfl, World.ownsRow_nil _ _ _ _, Below.refl _ _⟩
          case round =>
            obtain ⟨i, q, rfl, hi, hqi, hql, hO, hB⟩ := hrel
            obtain ⟨A5, c5, rfl⟩ := owns_form hO.out
            by_cases hil : i < n3
            · obtain ⟨u, hu⟩ : ∃ u, ps[i]? = some u := ⟨ps[i]'(by have := HN3.out; omega), List.getElem?_eq_getElem _⟩
              obtain ⟨b6, o6, hS3, hb6, hc6⟩ := at1s (((unhide HI3).below (unhide HBM)).below hB.out) (i := i) (u := .string u) (by rw [List.getElem?_map, hu]; rfl)
              subst hS3
              have hq2 : ((m : Int) / 2 ^ i) = ((m / 2 ^ i : Nat) : Int) := by simp
              have hb2 : bits BinOp.and IntKind.i64 ((m : Int) / 2 ^ i) 1 = ((m / 2 ^ i % 2 : Nat) : Int) := by
                rw [hq2]; exact and_one' _ (Nat.lt_of_le_of_lt (Nat.div_le_self _ _) (by omega))
              have hlt : (ps.take i).length = i := by rw [List.length_take]; have := HN3.out; omega
              have HSN : Hid (subM (ps.take (i + 1)) m = subM (ps.take i) m ++ (if m / 2 ^ i % 2 = 1 then [u] else [])) := Lib.hid (by
                rw [List.take_add_one, hu]
                show subM (ps.take i ++ [u]) m = _
                rw [subM_snoc, hlt])
              clear hq2 hlt hu
              by_cases hbit : m / 2 ^ i % 2 = 1
              · rw [hbit] at hb2
                change bits BinOp.and IntKind.i64 ((m : Int) / 2 ^ i) 1 = 1 at hb2
                rw [if_pos hbit] at HSN
                have HO7 := hide (hO.out.alloc (.cells #[.string u] 22))
                have HB7 := hide (hB.out.alloc hB.out.size (.cells #[.string u] 22))
                have hz7 := (unhide HB7).size
                go_wp2_with (at_builtin; refine wpList_app _ rfl _ _ 33 rfl w1.heap.size 22 i0 _ 1 16 Tryz.underlying33 hi0 hiz0 hiz1 hiz2 rfl (by decide) _ q ((subM (ps.take i) m).map Value.string) rfl (unhide HO7) (some ⟨wr.heap.size, 0, none⟩) 1 1 [.string u] rfl rfl (new_in wr 22 #[.string u]) (one_str u) (by unfold maxLen; omega) (by omega) hz7 ?_; intro v9 w9 hown9 hgrow9 _)
                have HB9 := hide (below_app (unhide HB7) (unhide HO7) hgrow9)
                have HO9 : Hid (w9.ownsRow w1.heap.size 22 1 v9 (q + 1) ((subM (ps.take (i + 1)) m).map Value.string)) := hide (by rw [HSN.out, List.map_append]; exact hown9)
                have HQ9 : Hid (q + 1 = (subM (ps.take (i + 1)) m).length) := Lib.hid (by rw [HSN.out, List.length_append, ← hql.out]; rfl)
                clear hown9 hgrow9
                go_wp2_with fail
                go_roundw
                case rel => exact ⟨i + 1, q + 1, by go_num, by omega, by omega, HQ9.out, unhide HO9, unhide HB9⟩
                case measure => simp [intOf]; omega
              · have hb0 : m / 2 ^ i % 2 = 0 := by omega
                rw [hb0] at hb2
                change bits BinOp.and IntKind.i64 ((m : Int) / 2 ^ i) 1 = 0 at hb2
                rw [if_neg hbit, List.append_nil] at HSN
                go_wp2_with fail
                go_roundw
                case rel => exact ⟨i + 1, q, by go_num, by omega, by omega, by rw [HSN.out]; exact hql.out, by rw [HSN.out]; exact hO.out, hB.out⟩
                case measure => simp [intOf]; omega
            · have hil2 : i = n3 := by omega
              have HSU : Hid (subM (ps.take i) m = subM ps m) := Lib.hid (by rw [List.take_of_length_le (by have := HN3.out; omega)])
              have HSS := Lib.hid (subT_succ ps m)
              have HS := hide (rset_any (subM (ps.take i) m) A5 q c5 wr hql.out (by omega) (fun s hs => HSZ.out s (((subM_sub _ _).trans (List.take_sublist _ _)).subset hs)) (InC.own hO.out))
              rw [HSU.out] at HS
              change Hid (Calls _ _ _ _ fun e w' => e = .returned (.string (setM (subM ps m))) ∧ _) at HS
              have HBw := hide ((unhide HBM).trans (hB.out.mono (unhide HBM).size))
              have HO8 := hide (owns_below (unhide HO1) hB.out)
              clear HSU hO hB hql
              generalize setM (subM ps m) = sv at *
              go_wp2_with fail
              refine (unhide HS).mono ?_
              rintro e w5 ⟨rfl, hb5⟩
              have HO9 := hide ((owns_below (unhide HO8) hb5).alloc (.cells #[.string sv] 22))
              have hB5 := (unhide HBw).trans (hb5.mono (unhide HBw).size)
              have HB9 := hide (hB5.alloc hB5.size (.cells #[.string sv] 22))
              have hz9 := (unhide HB9).size
              clear hb5 hB5 HS
              go_wp2_with (at_builtin; refine wpList_app _ rfl _ _ 33 rfl w3.heap.size 22 i0 _ 1 16 Tryz.underlying33 hi0 hiz0 hiz1 hiz2 rfl (by decide) _ m ((subT ps m).map Value.string) rfl (unhide HO9) (some ⟨w5.heap.size, 0, none⟩) 1 1 [.string sv] rfl rfl (new_in w5 22 #[.string sv]) (one_str sv) (by unfold maxLen; omega) (by omega) hz9 ?_; intro v8 w8 hown8 hgrow8 _)
              have HB8 := hide (below_app (unhide HB9) (unhide HO9) hgrow8)
              have HO8' : Hid (w8.ownsRow w3.heap.size 22 1 v8 (m + 1) ((subT ps (m + 1)).map Value.string)) := hide (by rw [HSS.out, List.map_append]; exact hown8)
              clear hown8 hgrow8
              go_wp2_with fail
              go_roundw
              case rel => exact ⟨m + 1, by go_num, by omega, unhide HO8', unhide HB8⟩
              case measure => simp [intOf]; omega
        · obtain rfl : m = N := by omega
          have HB5 := hide ((unhide HB3).trans (hB.out.mono (unhide HB3).size))
          have HI5 := hide (InC.own hO.out)
          rw [HTL.out] at HI5
          clear hO hB
          go_wp2_with fail
          refine (HBN.out _ _ _ _ HLT.out.symm (unhide HI5)).mono ?_
          rintro e w7 ⟨rfl, hb7⟩
          have HB7 := hide ((unhide HB5).trans (hb7.mono (unhide HB5).size))
          clear hb7
          go_wp2_with fail
          go_ret2
          exact ⟨by rw [HR.out]; rfl, unhide HB7⟩

end Go.Proofs.YtaambeficfiacaaGreat
