/- The reference's Product returns prodM of its sets. Conditions: the strings are at most 2^48 bytes, the slice takes at most 2^47 bytes. -/
-- by tools/gen_fph.py
import Derived.Test.YtkdlmgahkckjbaaGreatFpM
import Derived.Deep.RegionHeld3
namespace Go.Proofs.YtkdlmgahkckjbaaGreat
open Go.RowKit Go.Shelf VM

set_option linter.unusedSimpArgs false in
set_option maxRecDepth 100000 in
set_option maxHeartbeats 12800000 in
theorem rProduct_any (ls : List ByteArray) (A : Option Addr) (n c : Nat) (w : World) (hn : n = ls.length) (hn1 : n ≤ 8796093022207) (hs : ∀ s ∈ ls, s.size ≤ 281474976710656) (hr : InC w A (ls.map Value.string)) :
    Calls Tryz.prog 9 #[.slice A n c] w (RetV w (prodM ls)) := by
  have HS := Lib.hid hs
  have HR := hide hr
  have HN := Lib.hid hn
  have HT := Lib.hid (fun h => prodM_type (ls := ls) h)
  have HE := Lib.hid (fun h h2 => prodM_empty (ls := ls) h h2)
  have HO := Lib.hid (fun h h2 i hi h3 => prodM_over (ls := ls) h h2 (i := i) hi h3)
  have HF0 := Lib.hid (fun h h2 h3 => prodM_fits (ls := ls) h h2 h3)
  generalize prodM ls = r at *
  have HST := Lib.hid (fun w => rset_any [] none 0 0 w rfl (by omega) (fun s h => by cases h) (InC.nil _ _))
  change Hid (∀ w, Calls _ _ _ _ fun e w' => e = .returned (.string (setM [])) ∧ _) at HST
  obtain ⟨i0, hi0, hiz0, hiz1, hiz2⟩ := info_parts val_info
  obtain ⟨i1, hj0, hjz0, hjz1, hjz2⟩ := info_parts sl_info
  generalize setM [] = sm at *
  clear hs hr hn
  go_enter Tryz.func9, Tryz.ntmps9
  go_wp2_with fail
  refine (rsets_any ls A n c _ HN.out (by omega) HS.out (unhide HR)).mono ?_
  rintro e w1 ⟨rfl, hb1⟩
  have HB1 := hide hb1
  clear hb1
  cases hz : ls.all (isK 5) with
  | false =>
    have HQ : Hid (r = (⟨#[]⟩, 6)) := Lib.hid (HT.out hz)
    clear hz
    go_wp2_with fail
    go_ret2
    exact ⟨by rw [HQ.out]; rfl, unhide HB1⟩
  | true =>
    have HA2 := Lib.hid hz
    clear hz HT
    go_wp2_with fail
    have HR0 : Hid (RowsM w.heap.size (w1.alloc (.cells #[.slice none 0 0] 22)) (.slice (some ⟨w1.heap.size, 0, none⟩) 1 1) 1 [[]]) := hide (RowsM.one (unhide HB1).size (Blk.new w1 _ _))
    have HB2 := hide ((unhide HB1).alloc (unhide HB1).size (.cells #[.slice none 0 0] 22))
    obtain ⟨g0, hg0⟩ : ∃ g, Hid (g = w1.heap.size) := ⟨_, Lib.hid rfl⟩
    rw [← hg0.out] at HR0
    simp only [← hg0.out]
    generalize w1.alloc (.cells #[.slice none 0 0] 22) = w2 at *
    clear hg0
    go_loopw [5] (fun iv wr => ∃ j : Nat, iv = .int .i64 j ∧ j ≤ n ∧ Hid ((ls.any fun s => (pt s).isEmpty) = (ls.drop j).any fun s => (pt s).isEmpty) ∧ Hid (Below w2.heap.size w2 wr)) (fun iv _ => n - (intOf iv).toNat)
    case atStart => exact ⟨0, rfl, by omega, rfl, Below.refl _ _⟩
    case round =>
      obtain ⟨j, rfl, hj, hA, hB⟩ := hrel
      by_cases hil : j < n
      · obtain ⟨u, hu⟩ : ∃ u, ls[j]? = some u := ⟨ls[j]'(by have := HN.out; omega), List.getElem?_eq_getElem _⟩
        have HC := Lib.hid (fun w => rpartsO_any u (HS.out u (List.mem_of_getElem? hu)) w)
        have HST2 : Hid ((ls.any fun s => (pt s).isEmpty) = ((pt u).isEmpty || (ls.drop (j + 1)).any fun s => (pt s).isEmpty)) := Lib.hid (by rw [hA.out]; exact any_step hu)
        obtain ⟨b5, o5, hA1, hb5, hc5⟩ := at1s (((unhide HR).below (unhide HB2)).below hB.out) (i := j) (u := .string u) (by rw [List.getElem?_map, hu]; rfl)
        subst hA1
        clear hu hA
        go_wp2_with fail
        refine (HC.out _).mono ?_
        rintro e w3 ⟨S3, c3, n3, rfl, hn3, hO3, hb⟩
        have HB9 := hide (hB.out.trans (hb.mono hB.out.size))
        clear hb HC hB hc5 hb5 hO3
        by_cases h0 : n3 = 0
        · have HQ : Hid (r = (sm, 0)) := Lib.hid (HE.out HA2.out (by
            rw [HST2.out, show (pt u).isEmpty = true from List.isEmpty_iff.2 (List.eq_nil_of_length_eq_zero (by omega))]; rfl))
          subst h0
          clear hn3
          go_wp2_with fail
          refine (HST.out _).mono ?_
          rintro e w4 ⟨rfl, hb4⟩
          have HB4 := hide (((unhide HB2).trans ((unhide HB9).mono (unhide HB2).size)).trans (hb4.mono (by have := (unhide HB2).size; have := (unhide HB9).size; omega)))
          clear hb4
          go_wp2_with fail
          go_ret2
          exact ⟨by rw [HQ.out]; rfl, unhide HB4⟩
        · have HA3 : Hid ((ls.any fun s => (pt s).isEmpty) = (ls.drop (j + 1)).any fun s => (pt s).isEmpty) := Lib.hid (by
            rw [HST2.out]
            rcases hp : pt u with _ | ⟨a, l⟩
            · rw [hp] at hn3; exact absurd hn3 h0
            · rfl)
          clear hn3 HST2
          go_wp2_with fail
          go_roundw
          case rel => exact ⟨j + 1, by go_num, by omega, HA3.out, unhide HB9⟩
          case measure => simp [intOf]; omega
      · have HNE : Hid ((ls.any fun s => (pt s).isEmpty) = false) := Lib.hid (by rw [hA.out, List.drop_eq_nil_of_le (by have := HN.out; omega)]; rfl)
        have HR3 := hide ((unhide HR0).below hB.out)
        have HB3 := hide ((unhide HB2).trans (hB.out.mono (unhide HB2).size))
        have hjn : j = n := by omega
        subst hjn
        clear hA hB hil hj HR0 HB2 HST HE
        generalize wr = w3 at *
        clear wr
        go_wp2_with fail
        go_loopw [4, 6] (fun rv iv wr => ∃ (i L : Nat), iv = .int .i64 i ∧ i ≤ j ∧ L ≤ 4096 ∧ Hid (RowsM w.heap.size wr rv L (RW ls i)) ∧ Hid (Below w.heap.size w wr)) (fun _ iv _ => j - (intOf iv).toNat)
        case atStart => exact ⟨0, 1, rfl, by omega, by omega, unhide HR3, unhide HB3⟩
        case round =>
          obtain ⟨i, L, rfl, hi, hL, hM, hB⟩ := hrel
          obtain ⟨Ar, cr, rfl⟩ := hM.out.form
          by_cases hil : i < j
          · obtain ⟨s, hsi⟩ : ∃ u, ls[i]? = some u := ⟨ls[i]'(by have := HN.out; omega), List.getElem?_eq_getElem _⟩
            have HC := Lib.hid (fun w => rpartsO_any s (HS.out s (List.mem_of_getElem? hsi)) w)
            have HRS := Lib.hid (RW_succ hsi)
            have HRO : Hid (4096 < (RW ls (i + 1)).length → r = (⟨#[]⟩, 9)) := Lib.hid (fun h => HO.out HA2.out HNE.out (i + 1) (by rw [← HN.out]; omega) (by rw [← RW_len]; exact h))
            have HLX := Lib.hid (fun x (hx : x ∈ RW ls i) => RW_row hx)
            obtain ⟨b5, o5, hA1, hb5, hc5⟩ := at1s ((unhide HR).below hB.out) (i := i) (u := .string s) (by rw [List.getElem?_map, hsi]; rfl)
            subst hA1
            have HM3 := hide hM.out
            have HB4 := hide hB.out
            have HLP := Lib.hid (pt_len s)
            clear hsi hM hB
            generalize wr = w4 at *
            clear wr
            go_wp2_with fail
            refine (HC.out _).mono ?_
            rintro e w6 ⟨S3, c3, n3, rfl, hn3, hO3, hb6⟩
            have HB6 := hide ((unhide HB4).trans (hb6.mono (unhide HB4).size))
            have HM6 := hide ((unhide HM3).below hb6)
            have HI6 := hide (InC.own hO3)
            have HN3 := Lib.hid hn3
            have hn6 : n3 ≤ 65536 := by rw [hn3]; exact HLP.out
            clear hn3 hO3 hb6 HM3 HB4 hb5 hc5 HC HLP
            generalize pt s = m at *
            generalize RW ls i = R at *
            have HLR := Lib.hid (unhide HM6).len
            go_wp2_with fail
            go_loopw [8, 9] (fun nv kv wr => ∃ (k q : Nat), kv = .int .i64 k ∧ k ≤ L ∧ q ≤ 4096 ∧ Hid (RowsM w6.heap.size wr nv q (NX R m k)) ∧ Hid (Below w6.heap.size w6 wr)) (fun _ kv _ => L - (intOf kv).toNat)
            case atStart => exact ⟨0, 0, rfl, by omega, by omega, RowsM.nil _ _, Below.refl _ _⟩
            case round =>
              obtain ⟨k, q0, rfl, hk, hq0, hM, hB⟩ := hrel
              obtain ⟨A8, c8, rfl⟩ := hM.out.form
              by_cases hkL : k < L
              · obtain ⟨x, hx⟩ : ∃ x, R[k]? = some x := ⟨R[k]'(by have := HLR.out; omega), List.getElem?_eq_getElem _⟩
                have HXX := Lib.hid hx
                have HALL := Lib.hid (NJ_all (m := m) hx)
                have HOV := Lib.hid (fun jj (hj : jj < m.length) => NJ_over (m := m) hx hj)
                obtain ⟨gR, zA, zc, hAr, hgR, hcR, hIR⟩ := (unhide HM6).get hx
                have hxl := HLX.out x (List.mem_of_getElem? hx)
                subst hAr
                obtain ⟨zn, hzn⟩ : ∃ z, z = x.length := ⟨_, rfl⟩
                rw [← hzn] at hcR
                have HZN := Lib.hid hzn
                have hznb : zn ≤ 8796093022207 := by rw [hzn]; have := HN.out; omega
                have HIR := hide hIR
                have HCR := hide hcR
                have HZ := Lib.hid (fun W (h : Below w6.heap.size w6 W) => (unhide HIR).below h)
                have HM4 := hide hM.out
                have HB4 := hide hB.out
                clear hx hcR hIR hxl hzn hM hB
                generalize wr = w7 at *
                clear wr
                go_wp2_with fail
                go_loopw [8, 10] (fun nv jv wr => ∃ (j q : Nat), jv = .int .i64 j ∧ j ≤ n3 ∧ q ≤ 4096 ∧ Hid (RowsM w6.heap.size wr nv q (NJ R m k x j)) ∧ Hid (Below w6.heap.size w6 wr)) (fun _ jv _ => n3 - (intOf jv).toNat)
                case atStart => exact ⟨0, q0, rfl, by omega, hq0, by rw [NJ_zero]; exact unhide HM4, unhide HB4⟩
                case round =>
                  obtain ⟨j, q, rfl, hj, hq, hM, hB⟩ := hrel
                  obtain ⟨An, cn, rfl⟩ := hM.out.form
                  have HNX := hide hM.out
                  have HWr := hide hB.out
                  clear hM hB
                  by_cases hjn : j < n3
                  · obtain ⟨u, hu⟩ : ∃ u, m[j]? = some u := ⟨m[j]'(by have := HN3.out; omega), List.getElem?_eq_getElem _⟩
                    by_cases hq4 : 4096 ≤ q
                    · have HQ : Hid (r = (⟨#[]⟩, 9)) := Lib.hid (HRO.out (by
                        have h1 := HOV.out j (by rw [← HN3.out]; exact hjn)
                        rw [← (unhide HNX).len] at h1
                        rw [HRS.out]
                        omega))
                      have HBE := hide ((unhide HB6).trans ((unhide HWr).mono (unhide HB6).size))
                      clear hu
                      go_wp2_with fail
                      go_ret2
                      exact ⟨by rw [HQ.out]; rfl, unhide HBE⟩
                    · have HNJ := Lib.hid (NJ_succ (R := R) (k := k) (x := x) hu)
                      obtain ⟨bM, oM, hS3, hbM, hcM⟩ := at1s (unhide HI6) (i := j) (u := .string u) (by rw [List.getElem?_map, hu]; rfl)
                      subst hS3
                      have HF := Lib.hid (fun W (h : Below w6.heap.size w6 W) => (⟨(h.cell (p := ⟨gR, k, none⟩) hgR).trans (unhide HCR), (h.cell (p := ⟨bM, oM + j, none⟩) hbM).trans hcM⟩ : W.cell? ⟨gR, k, none⟩ = some (.slice zA zn zc) ∧ W.cell? ⟨bM, oM + j, none⟩ = some (.string u)))
                      clear hu hcM
                      go_wp2_with fail
                      have HWD := hide (below_drew (unhide HWr))
                      have HNXd := hide ((unhide HNX).below (below_drew (Below.refl wr.heap.size wr)))
                      have HB0 := hide (Below.refl wr.drew.heap.size wr.drew)
                      have fd0 : Hid (wr.drew.cell? ⟨gR, k, none⟩ = some (.slice zA zn zc)) := (HF.out _ (unhide HWD)).1
                      have fd1 : Hid (wr.drew.cell? ⟨bM, oM + j, none⟩ = some (.string u)) := (HF.out _ (unhide HWD)).2
                      refine wp_region_noPanic ?_
                      refine wp_region_held_drew (S := fun W => W.cell? ⟨gR, k, none⟩ = some (.slice zA zn zc) ∧ W.cell? ⟨bM, oM + j, none⟩ = some (.string u)) (by kernel_rfl) ⟨fd0, fd1⟩ (fun _ => ?_)
                      generalize wr.drew = wd at *
                      try simp only [Act.put, List.setIfInBounds_toArray, List.set_cons_zero, List.set_cons_succ]
                      refine wpAnyH_take (i := 0) (oi := { dst := some 58, op := Op.move (Operand.tmp 8), type := 44, pos := "finset.go:152", after := #[], guard := none }) (v := ?_) rfl (by kernel_rfl) (by kernel_rfl) (by kernel_rfl) (fun _ _ _ h => h) (Or.inl ⟨by rfl, ?_⟩) ⟨fd0, fd1⟩ ?_
                      rotate_left 1
                      · intro w hSw
                        obtain ⟨hSw0, hSw1⟩ := hSw
                        go_simp
                        first
                          | done
                          | with_reducible rfl
                          | rw [if_neg (by omega)]
                      try simp only [Act.put, List.setIfInBounds_toArray, List.set_cons_zero, List.set_cons_succ]
                      refine wpAnyH_take (i := 1) (oi := { dst := some 59, op := Op.move (Operand.tmp 4), type := 44, pos := "finset.go:152", after := #[], guard := none }) (v := ?_) rfl (by kernel_rfl) (by kernel_rfl) (by kernel_rfl) (fun _ _ _ h => h) (Or.inl ⟨by rfl, ?_⟩) ⟨fd0, fd1⟩ ?_
                      rotate_left 1
                      · intro w hSw
                        obtain ⟨hSw0, hSw1⟩ := hSw
                        go_simp
                        first
                          | done
                          | with_reducible rfl
                          | rw [if_neg (by omega)]
                      try simp only [Act.put, List.setIfInBounds_toArray, List.set_cons_zero, List.set_cons_succ]
                      refine wpAnyH_take (i := 2) (oi := { dst := some 60, op := Op.move (Operand.tmp 9), type := 3, pos := "finset.go:152", after := #[], guard := none }) (v := ?_) rfl (by kernel_rfl) (by kernel_rfl) (by kernel_rfl) (fun _ _ _ h => h) (Or.inl ⟨by rfl, ?_⟩) ⟨fd0, fd1⟩ ?_
                      rotate_left 1
                      · intro w hSw
                        obtain ⟨hSw0, hSw1⟩ := hSw
                        go_simp
                        first
                          | done
                          | with_reducible rfl
                          | rw [if_neg (by omega)]
                      try simp only [Act.put, List.setIfInBounds_toArray, List.set_cons_zero, List.set_cons_succ]
                      refine wpAnyH_take (i := 3) (oi := { dst := some 61, op := Op.indexAddr 44 (Operand.tmp 59) (Operand.tmp 60), type := 0, pos := "finset.go:152", after := #[{ on := 1, ground := Ground.data }, { on := 2, ground := Ground.data }], guard := none }) (v := ?_) rfl (by kernel_rfl) (by kernel_rfl) (by kernel_rfl) (fun _ _ _ h => h) (Or.inl ⟨by rfl, ?_⟩) ⟨fd0, fd1⟩ ?_
                      rotate_left 1
                      · intro w hSw
                        obtain ⟨hSw0, hSw1⟩ := hSw
                        go_simp
                        first
                          | done
                          | with_reducible rfl
                          | rw [if_neg (by omega)]
                      try simp only [Act.put, List.setIfInBounds_toArray, List.set_cons_zero, List.set_cons_succ]
                      refine wpAnyH_take (i := 4) (oi := { dst := some 62, op := Op.load 22 (Operand.tmp 61), type := 22, pos := "finset.go:152", after := #[{ on := 3, ground := Ground.data }], guard := none }) (v := ?_) rfl (by kernel_rfl) (by kernel_rfl) (by kernel_rfl) (fun _ _ _ h => h) (Or.inl ⟨by rfl, ?_⟩) ⟨fd0, fd1⟩ ?_
                      rotate_left 1
                      · intro w hSw
                        obtain ⟨hSw0, hSw1⟩ := hSw
                        go_simp
                        first
                          | done
                          | with_reducible rfl
                          | rw [if_neg (by omega)]
                      try simp only [Act.put, List.setIfInBounds_toArray, List.set_cons_zero, List.set_cons_succ]
                      refine wpAnyH_take (i := 6) (oi := { dst := some 64, op := Op.move (Operand.tmp 7), type := 22, pos := "finset.go:152", after := #[], guard := none }) (v := ?_) rfl (by kernel_rfl) (by kernel_rfl) (by kernel_rfl) (fun _ _ _ h => h) (Or.inl ⟨by rfl, ?_⟩) ⟨fd0, fd1⟩ ?_
                      rotate_left 1
                      · intro w hSw
                        obtain ⟨hSw0, hSw1⟩ := hSw
                        go_simp
                        first
                          | done
                          | with_reducible rfl
                          | rw [if_neg (by omega)]
                      try simp only [Act.put, List.setIfInBounds_toArray, List.set_cons_zero, List.set_cons_succ]
                      refine wpAnyH_take (i := 7) (oi := { dst := some 65, op := Op.move (Operand.tmp 10), type := 3, pos := "finset.go:152", after := #[], guard := none }) (v := ?_) rfl (by kernel_rfl) (by kernel_rfl) (by kernel_rfl) (fun _ _ _ h => h) (Or.inl ⟨by rfl, ?_⟩) ⟨fd0, fd1⟩ ?_
                      rotate_left 1
                      · intro w hSw
                        obtain ⟨hSw0, hSw1⟩ := hSw
                        go_simp
                        first
                          | done
                          | with_reducible rfl
                          | rw [if_neg (by omega)]
                      try simp only [Act.put, List.setIfInBounds_toArray, List.set_cons_zero, List.set_cons_succ]
                      refine wpAnyH_take (i := 8) (oi := { dst := some 66, op := Op.indexAddr 22 (Operand.tmp 64) (Operand.tmp 65), type := 0, pos := "finset.go:152", after := #[{ on := 6, ground := Ground.data }, { on := 7, ground := Ground.data }], guard := none }) (v := ?_) rfl (by kernel_rfl) (by kernel_rfl) (by kernel_rfl) (fun _ _ _ h => h) (Or.inl ⟨by rfl, ?_⟩) ⟨fd0, fd1⟩ ?_
                      rotate_left 1
                      · intro w hSw
                        obtain ⟨hSw0, hSw1⟩ := hSw
                        go_simp
                        first
                          | done
                          | with_reducible rfl
                          | rw [if_neg (by omega)]
                      try simp only [Act.put, List.setIfInBounds_toArray, List.set_cons_zero, List.set_cons_succ]
                      refine wpAnyH_take (i := 9) (oi := { dst := some 67, op := Op.load 27 (Operand.tmp 66), type := 27, pos := "finset.go:152", after := #[{ on := 8, ground := Ground.data }], guard := none }) (v := ?_) rfl (by kernel_rfl) (by kernel_rfl) (by kernel_rfl) (fun _ _ _ h => h) (Or.inl ⟨by rfl, ?_⟩) ⟨fd0, fd1⟩ ?_
                      rotate_left 1
                      · intro w hSw
                        obtain ⟨hSw0, hSw1⟩ := hSw
                        go_simp
                        first
                          | done
                          | with_reducible rfl
                          | rw [if_neg (by omega)]
                      try simp only [Act.put, List.setIfInBounds_toArray, List.set_cons_zero, List.set_cons_succ]
                      refine wpAnyH_ready (rs := [5, 10]) (by kernel_rfl) (by simp) ?_
                      refine (AllReadyH.cons (o := { dst := some 63, op := Op.call { callee := Callee.builtin Builtin.append, args := #[Operand.const (Value.slice none 0 0), Operand.tmp 62], argTypes := #[22, 22] }, type := 22, pos := "finset.go:152", after := #[{ on := 4, ground := Ground.data }], guard := none }) rfl (fun K hK => ?_) (AllReadyH.cons (o := { dst := some 68, op := Op.buildSlice 22 1 #[(0, Operand.tmp 67)], type := 22, pos := "finset.go:152", after := #[{ on := 9, ground := Ground.data }], guard := none }) rfl (fun K hK => ?_) AllReadyH.nil))
                      · refine step_app rfl _ _ 22 rfl wd.heap.size 27 i0 _ 1 16 Tryz.underlying22 hi0 hiz0 hiz1 hiz2 rfl (by decide) (.slice none 0 0) 0 [] rfl (World.ownsRow_nil _ _ _ _) zA zn zc (x.map Value.string) rfl (by rw [List.length_map, Nat.mul_one]; exact HZN.out.symm) (HZ.out _ ((unhide HWD).trans ((unhide HB0).mono (unhide HWD).size))) (strs_one' x) (by unfold maxLen; omega) (by omega) (unhide HB0).size ?_
                        intro v701 w701 hown701 hgrow701 hor701
                        rw [Nat.zero_add, List.nil_append] at hown701
                        have HB701 := hide (below_row (unhide HB0) hgrow701 (fun j e => by simp [Value.ownBlock] at e))
                        have HA701 := hide hown701
                        clear hown701 hgrow701 hor701
                        have fp701 := HF.out _ ((unhide HWD).trans ((unhide HB701).mono (unhide HWD).size))
                        refine hK.out _ w701 fp701 (fun _ => ?_)
                        clear hK K
                        try simp only [Act.put, List.setIfInBounds_toArray, List.set_cons_zero, List.set_cons_succ]
                        refine wpAnyH_ready (rs := [10]) (by kernel_rfl) (by simp) ?_
                        refine (AllReadyH.cons (o := { dst := some 68, op := Op.buildSlice 22 1 #[(0, Operand.tmp 67)], type := 22, pos := "finset.go:152", after := #[{ on := 9, ground := Ground.data }], guard := none }) rfl (fun K hK => ?_) AllReadyH.nil)
                        go_simp
                        try dsimp only
                        have HB702 := hide ((unhide HB701).alloc (unhide HB701).size (.cells #[.string u] 27))
                        have HL702 := hide (Blk.new w701 27 #[.string u])
                        have HN702 : Hid (some w701.heap.size ≠ v701.ownBlock) := hide (fun q => by have := ((unhide HA701).lt _ q.symm).2; omega)
                        have HA702 := hide ((unhide HA701).alloc (.cells #[.string u] 27))
                        have fp702 := HF.out _ ((unhide HWD).trans ((unhide HB702).mono (unhide HWD).size))
                        refine hK.out _ (w701.alloc (.cells #[.string u] 27)) fp702 (fun _ => ?_)
                        clear hK K
                        generalize hwe702 : w701.alloc (.cells #[.string u] 27) = wl702 at *
                        clear hwe702
                        generalize hbe702 : w701.heap.size = bl702 at *
                        clear hbe702
                        try simp only [Act.put, List.setIfInBounds_toArray, List.set_cons_zero, List.set_cons_succ]
                        refine wpAnyH_ready (rs := [11]) (by kernel_rfl) (by simp) ?_
                        refine (AllReadyH.cons (o := { dst := some 69, op := Op.call { callee := Callee.builtin Builtin.append, args := #[Operand.tmp 63, Operand.tmp 68], argTypes := #[22, 22] }, type := 22, pos := "finset.go:152", after := #[{ on := 5, ground := Ground.data }, { on := 10, ground := Ground.data }, { on := 5, ground := Ground.chain }], guard := none }) rfl (fun K hK => ?_) AllReadyH.nil)
                        refine step_app rfl _ _ 22 rfl wd.heap.size 27 i0 _ 1 16 Tryz.underlying22 hi0 hiz0 hiz1 hiz2 rfl (by decide) v701 zn (x.map Value.string) rfl (unhide HA702) (some ⟨bl702, 0, none⟩) 1 1 [.string u] rfl rfl (lit_at (unhide HL702)) (one_str u) (by unfold maxLen; omega) (by omega) (unhide HB702).size ?_
                        intro v703 w703 hown703 hgrow703 hor703
                        have HB703 := hide (below_app (unhide HB702) (unhide HA702) hgrow703)
                        have HA703 := hide (show w703.ownsRow wd.heap.size 27 1 v703 (zn + 1) ((x ++ [u]).map Value.string) by rw [List.map_append]; exact hown703)
                        obtain ⟨A703, c703, rfl⟩ := owns_form (unhide HA703)
                        clear hown703 hgrow703 hor703
                        have fp703 := HF.out _ ((unhide HWD).trans ((unhide HB703).mono (unhide HWD).size))
                        refine hK.out _ w703 fp703 (fun _ => ?_)
                        clear hK K
                        try simp only [Act.put, List.setIfInBounds_toArray, List.set_cons_zero, List.set_cons_succ]
                        refine wpAnyH_ready (rs := [12]) (by kernel_rfl) (by simp) ?_
                        refine (AllReadyH.cons (o := { dst := some 70, op := Op.buildSlice 44 1 #[(0, Operand.tmp 69)], type := 44, pos := "finset.go:152", after := #[{ on := 11, ground := Ground.data }], guard := none }) rfl (fun K hK => ?_) AllReadyH.nil)
                        go_simp
                        try dsimp only
                        have HB704 := hide ((unhide HB703).alloc (unhide HB703).size (.cells #[(.slice A703 (zn + 1) c703)] 22))
                        have HL704 := hide (Blk.new w703 22 #[(.slice A703 (zn + 1) c703)])
                        have HA704 := hide ((unhide HA703).alloc (.cells #[(.slice A703 (zn + 1) c703)] 22))
                        have fp704 := HF.out _ ((unhide HWD).trans ((unhide HB704).mono (unhide HWD).size))
                        refine hK.out _ (w703.alloc (.cells #[(.slice A703 (zn + 1) c703)] 22)) fp704 (fun _ => ?_)
                        clear hK K
                        generalize hwe704 : w703.alloc (.cells #[(.slice A703 (zn + 1) c703)] 22) = wl704 at *
                        clear hwe704
                        generalize hbe704 : w703.heap.size = bl704 at *
                        clear hbe704
                        try simp only [Act.put, List.setIfInBounds_toArray, List.set_cons_zero, List.set_cons_succ]
                        refine wpAnyH_ready (rs := [13]) (by kernel_rfl) (by simp) ?_
                        refine (AllReadyH.cons (o := { dst := some 71, op := Op.call { callee := Callee.builtin Builtin.append, args := #[Operand.tmp 58, Operand.tmp 70], argTypes := #[44, 44] }, type := 44, pos := "finset.go:152", after := #[{ on := 0, ground := Ground.data }, { on := 12, ground := Ground.data }, { on := 11, ground := Ground.chain }], guard := none }) rfl (fun K hK => ?_) AllReadyH.nil)
                        obtain ⟨zs705, hy705, hz705, ho705, hr705⟩ := (unhide HNXd).below (unhide HB704)
                        have HOO705 := hide ho705
                        have HYY705 := Lib.hid hy705
                        have HZZ705 := Lib.hid hz705
                        have HRR705 := Lib.hid hr705
                        clear hy705 hz705 ho705 hr705
                        refine step_app rfl _ _ 44 rfl w6.heap.size 22 i1 _ 1 24 Tryz.underlying44 hj0 hjz0 hjz1 hjz2 rfl (by decide) (.slice An q cn) q (zs705.map svV) rfl (unhide HOO705) (some ⟨bl704, 0, none⟩) 1 1 [(.slice A703 (zn + 1) c703)] rfl rfl (lit_at (unhide HL704)) (one_sl _ _ _) (by unfold maxLen; omega) (by omega) (Nat.le_trans (unhide HWD).size (unhide HB704).size) ?_
                        intro v705 w705 hown705 hgrow705 hor705
                        have HBX705 := hide (below_app ((unhide HWD).trans ((unhide HB704).mono (unhide HWD).size)) (unhide HOO705) hgrow705)
                        have HNE705 := hide (RowsM.app HYY705.out HZZ705.out (unhide HOO705) HRR705.out (owns_base (unhide HA704) (unhide HWD).size) hown705 hgrow705)
                        clear hown705 hgrow705 hor705
                        have fp705 := HF.out _ (unhide HBX705)
                        refine hK.out _ w705 fp705 (fun _ => ?_)
                        clear hK K
                        try simp only [Act.put, List.setIfInBounds_toArray, List.set_cons_zero, List.set_cons_succ]
                        refine wpAnyH_take (i := 14) (oi := { dst := some 8, op := Op.assign (Operand.tmp 71), type := 44, pos := "finset.go:152", after := #[{ on := 13, ground := Ground.data }, { on := 13, ground := Ground.chain }, { on := 0, ground := Ground.phase }, { on := 1, ground := Ground.phase }, { on := 2, ground := Ground.phase }, { on := 3, ground := Ground.phase }, { on := 4, ground := Ground.phase }, { on := 5, ground := Ground.phase }, { on := 6, ground := Ground.phase }, { on := 7, ground := Ground.phase }, { on := 8, ground := Ground.phase }, { on := 9, ground := Ground.phase }, { on := 10, ground := Ground.phase }, { on := 11, ground := Ground.phase }, { on := 12, ground := Ground.phase }, { on := 13, ground := Ground.phase }], guard := none }) (v := ?_) rfl (by kernel_rfl) (by kernel_rfl) (by kernel_rfl) (fun _ _ _ h => h) (Or.inl ⟨by rfl, ?_⟩) ⟨fp705.1, fp705.2⟩ ?_
                        rotate_left 1
                        · intro w hSw
                          obtain ⟨hSw0, hSw1⟩ := hSw
                          go_simp
                          first
                            | done
                            | with_reducible rfl
                            | rw [if_neg (by omega)]
                        try simp only [Act.put, List.setIfInBounds_toArray, List.set_cons_zero, List.set_cons_succ]
                        refine wpAnyH_done (by kernel_rfl) ?_ _
                        refine NoPanic.normal ?_
                        have HTE := hide (unhide HNE705)
                        have HTX := hide (unhide HBX705)
                        rw [← HNJ.out] at HTE
                        go_wp2_with fail
                        go_roundw
                        case rel => exact ⟨j + 1, q + 1, by go_num, by omega, by omega, unhide HTE, unhide HTX⟩
                        case measure => simp [intOf]; omega
                      · go_simp
                        try dsimp only
                        have HB706 := hide ((unhide HB0).alloc (unhide HB0).size (.cells #[.string u] 27))
                        have HL706 := hide (Blk.new wd 27 #[.string u])
                        have fp706 := HF.out _ ((unhide HWD).trans ((unhide HB706).mono (unhide HWD).size))
                        refine hK.out _ (wd.alloc (.cells #[.string u] 27)) fp706 (fun _ => ?_)
                        clear hK K
                        generalize hwe706 : wd.alloc (.cells #[.string u] 27) = wl706 at *
                        clear hwe706
                        try simp only [Act.put, List.setIfInBounds_toArray, List.set_cons_zero, List.set_cons_succ]
                        refine wpAnyH_ready (rs := [5]) (by kernel_rfl) (by simp) ?_
                        refine (AllReadyH.cons (o := { dst := some 63, op := Op.call { callee := Callee.builtin Builtin.append, args := #[Operand.const (Value.slice none 0 0), Operand.tmp 62], argTypes := #[22, 22] }, type := 22, pos := "finset.go:152", after := #[{ on := 4, ground := Ground.data }], guard := none }) rfl (fun K hK => ?_) AllReadyH.nil)
                        refine step_app rfl _ _ 22 rfl wd.heap.size 27 i0 _ 1 16 Tryz.underlying22 hi0 hiz0 hiz1 hiz2 rfl (by decide) (.slice none 0 0) 0 [] rfl (World.ownsRow_nil _ _ _ _) zA zn zc (x.map Value.string) rfl (by rw [List.length_map, Nat.mul_one]; exact HZN.out.symm) (HZ.out _ ((unhide HWD).trans ((unhide HB706).mono (unhide HWD).size))) (strs_one' x) (by unfold maxLen; omega) (by omega) (unhide HB706).size ?_
                        intro v707 w707 hown707 hgrow707 hor707
                        rw [Nat.zero_add, List.nil_append] at hown707
                        have HB707 := hide (below_row (unhide HB706) hgrow707 (fun j e => by simp [Value.ownBlock] at e))
                        have HA707 := hide hown707
                        have HN707 : Hid (some wd.heap.size ≠ v707.ownBlock) := hide (by rcases hor707 with h | h <;> rw [h] <;> intro q <;> simp [Value.ownBlock] at q <;> (have := (unhide HL706).lt; omega))
                        have HL707 := hide ((unhide HL706).grown hgrow707 (by simp [Value.ownBlock]))
                        clear hown707 hgrow707 hor707
                        have fp707 := HF.out _ ((unhide HWD).trans ((unhide HB707).mono (unhide HWD).size))
                        refine hK.out _ w707 fp707 (fun _ => ?_)
                        clear hK K
                        try simp only [Act.put, List.setIfInBounds_toArray, List.set_cons_zero, List.set_cons_succ]
                        refine wpAnyH_ready (rs := [11]) (by kernel_rfl) (by simp) ?_
                        refine (AllReadyH.cons (o := { dst := some 69, op := Op.call { callee := Callee.builtin Builtin.append, args := #[Operand.tmp 63, Operand.tmp 68], argTypes := #[22, 22] }, type := 22, pos := "finset.go:152", after := #[{ on := 5, ground := Ground.data }, { on := 10, ground := Ground.data }, { on := 5, ground := Ground.chain }], guard := none }) rfl (fun K hK => ?_) AllReadyH.nil)
                        refine step_app rfl _ _ 22 rfl wd.heap.size 27 i0 _ 1 16 Tryz.underlying22 hi0 hiz0 hiz1 hiz2 rfl (by decide) v707 zn (x.map Value.string) rfl (unhide HA707) (some ⟨wd.heap.size, 0, none⟩) 1 1 [.string u] rfl rfl (lit_at (unhide HL707)) (one_str u) (by unfold maxLen; omega) (by omega) (unhide HB707).size ?_
                        intro v708 w708 hown708 hgrow708 hor708
                        have HB708 := hide (below_app (unhide HB707) (unhide HA707) hgrow708)
                        have HA708 := hide (show w708.ownsRow wd.heap.size 27 1 v708 (zn + 1) ((x ++ [u]).map Value.string) by rw [List.map_append]; exact hown708)
                        obtain ⟨A708, c708, rfl⟩ := owns_form (unhide HA708)
                        clear hown708 hgrow708 hor708
                        have fp708 := HF.out _ ((unhide HWD).trans ((unhide HB708).mono (unhide HWD).size))
                        refine hK.out _ w708 fp708 (fun _ => ?_)
                        clear hK K
                        try simp only [Act.put, List.setIfInBounds_toArray, List.set_cons_zero, List.set_cons_succ]
                        refine wpAnyH_ready (rs := [12]) (by kernel_rfl) (by simp) ?_
                        refine (AllReadyH.cons (o := { dst := some 70, op := Op.buildSlice 44 1 #[(0, Operand.tmp 69)], type := 44, pos := "finset.go:152", after := #[{ on := 11, ground := Ground.data }], guard := none }) rfl (fun K hK => ?_) AllReadyH.nil)
                        go_simp
                        try dsimp only
                        have HB709 := hide ((unhide HB708).alloc (unhide HB708).size (.cells #[(.slice A708 (zn + 1) c708)] 22))
                        have HL709 := hide (Blk.new w708 22 #[(.slice A708 (zn + 1) c708)])
                        have HA709 := hide ((unhide HA708).alloc (.cells #[(.slice A708 (zn + 1) c708)] 22))
                        have fp709 := HF.out _ ((unhide HWD).trans ((unhide HB709).mono (unhide HWD).size))
                        refine hK.out _ (w708.alloc (.cells #[(.slice A708 (zn + 1) c708)] 22)) fp709 (fun _ => ?_)
                        clear hK K
                        generalize hwe709 : w708.alloc (.cells #[(.slice A708 (zn + 1) c708)] 22) = wl709 at *
                        clear hwe709
                        generalize hbe709 : w708.heap.size = bl709 at *
                        clear hbe709
                        try simp only [Act.put, List.setIfInBounds_toArray, List.set_cons_zero, List.set_cons_succ]
                        refine wpAnyH_ready (rs := [13]) (by kernel_rfl) (by simp) ?_
                        refine (AllReadyH.cons (o := { dst := some 71, op := Op.call { callee := Callee.builtin Builtin.append, args := #[Operand.tmp 58, Operand.tmp 70], argTypes := #[44, 44] }, type := 44, pos := "finset.go:152", after := #[{ on := 0, ground := Ground.data }, { on := 12, ground := Ground.data }, { on := 11, ground := Ground.chain }], guard := none }) rfl (fun K hK => ?_) AllReadyH.nil)
                        obtain ⟨zs710, hy710, hz710, ho710, hr710⟩ := (unhide HNXd).below (unhide HB709)
                        have HOO710 := hide ho710
                        have HYY710 := Lib.hid hy710
                        have HZZ710 := Lib.hid hz710
                        have HRR710 := Lib.hid hr710
                        clear hy710 hz710 ho710 hr710
                        refine step_app rfl _ _ 44 rfl w6.heap.size 22 i1 _ 1 24 Tryz.underlying44 hj0 hjz0 hjz1 hjz2 rfl (by decide) (.slice An q cn) q (zs710.map svV) rfl (unhide HOO710) (some ⟨bl709, 0, none⟩) 1 1 [(.slice A708 (zn + 1) c708)] rfl rfl (lit_at (unhide HL709)) (one_sl _ _ _) (by unfold maxLen; omega) (by omega) (Nat.le_trans (unhide HWD).size (unhide HB709).size) ?_
                        intro v710 w710 hown710 hgrow710 hor710
                        have HBX710 := hide (below_app ((unhide HWD).trans ((unhide HB709).mono (unhide HWD).size)) (unhide HOO710) hgrow710)
                        have HNE710 := hide (RowsM.app HYY710.out HZZ710.out (unhide HOO710) HRR710.out (owns_base (unhide HA709) (unhide HWD).size) hown710 hgrow710)
                        clear hown710 hgrow710 hor710
                        have fp710 := HF.out _ (unhide HBX710)
                        refine hK.out _ w710 fp710 (fun _ => ?_)
                        clear hK K
                        try simp only [Act.put, List.setIfInBounds_toArray, List.set_cons_zero, List.set_cons_succ]
                        refine wpAnyH_take (i := 14) (oi := { dst := some 8, op := Op.assign (Operand.tmp 71), type := 44, pos := "finset.go:152", after := #[{ on := 13, ground := Ground.data }, { on := 13, ground := Ground.chain }, { on := 0, ground := Ground.phase }, { on := 1, ground := Ground.phase }, { on := 2, ground := Ground.phase }, { on := 3, ground := Ground.phase }, { on := 4, ground := Ground.phase }, { on := 5, ground := Ground.phase }, { on := 6, ground := Ground.phase }, { on := 7, ground := Ground.phase }, { on := 8, ground := Ground.phase }, { on := 9, ground := Ground.phase }, { on := 10, ground := Ground.phase }, { on := 11, ground := Ground.phase }, { on := 12, ground := Ground.phase }, { on := 13, ground := Ground.phase }], guard := none }) (v := ?_) rfl (by kernel_rfl) (by kernel_rfl) (by kernel_rfl) (fun _ _ _ h => h) (Or.inl ⟨by rfl, ?_⟩) ⟨fp710.1, fp710.2⟩ ?_
                        rotate_left 1
                        · intro w hSw
                          obtain ⟨hSw0, hSw1⟩ := hSw
                          go_simp
                          first
                            | done
                            | with_reducible rfl
                            | rw [if_neg (by omega)]
                        try simp only [Act.put, List.setIfInBounds_toArray, List.set_cons_zero, List.set_cons_succ]
                        refine wpAnyH_done (by kernel_rfl) ?_ _
                        refine NoPanic.normal ?_
                        have HTE := hide (unhide HNE710)
                        have HTX := hide (unhide HBX710)
                        rw [← HNJ.out] at HTE
                        go_wp2_with fail
                        go_roundw
                        case rel => exact ⟨j + 1, q + 1, by go_num, by omega, by omega, unhide HTE, unhide HTX⟩
                        case measure => simp [intOf]; omega
                  · have hjj : j = n3 := by omega
                    subst hjj
                    have HNF : Hid (RowsM w6.heap.size wr (.slice An q cn) q (NX R m (k + 1))) := hide (by rw [← HALL.out, ← HN3.out]; exact unhide HNX)
                    go_wp2_with fail
                    go_roundw
                    case rel => exact ⟨k + 1, q, by go_num, by omega, hq, unhide HNF, unhide HWr⟩
                    case measure => simp [intOf]; omega
              · have hkk : k = L := by omega
                subst hkk
                have HMF : Hid (RowsM w.heap.size wr (.slice A8 q0 c8) q0 (RW ls (i + 1))) := hide (by rw [HRS.out, ← HLR.out]; exact hM.out.base (unhide HB6).size)
                have HBF := hide ((unhide HB6).trans (hB.out.mono (unhide HB6).size))
                clear hM hB
                go_wp2_with fail
                go_roundw
                case rel => exact ⟨i + 1, q0, by go_num, by omega, hq0, unhide HMF, unhide HBF⟩
                case measure => simp [intOf]; omega
          · have hij : i = j := by omega
            subst hij
            have HLR := Lib.hid hM.out.len
            have HRW : Hid (RW ls i = rowsR (ls.map pt).reverse) := Lib.hid (by unfold RW; rw [HN.out, List.take_length])
            have HQ : Hid (r = bnd ((RW ls i).map (mkM 4))) := Lib.hid (by
              rw [HRW.out]
              refine HF0.out HA2.out HNE.out ?_
              rw [← rowsR_len, ← HRW.out, ← HLR.out]
              omega)
            have HLX := Lib.hid (fun x (hx : x ∈ RW ls i) => RW_row hx)
            have HSX := Lib.hid (fun x (hx : x ∈ RW ls i) => RW_str hx)
            have HM9 := hide hM.out
            have HB9 := hide hB.out
            clear hM hB HRW
            generalize RW ls i = R at *
            generalize wr = w9 at *
            clear wr
            go_wp2_with fail
            go_loopw [11, 12] (fun ov kv wr => ∃ k : Nat, kv = .int .i64 k ∧ k ≤ L ∧ Hid (wr.ownsRow w9.heap.size 27 1 ov k (((R.take k).map (mkM 4)).map Value.string)) ∧ Hid (Below w9.heap.size w9 wr)) (fun _ kv _ => L - (intOf kv).toNat)
            case atStart => exact ⟨0, rfl, by omega, World.ownsRow_nil _ _ _ _, Below.refl _ _⟩
            case round =>
              obtain ⟨k, rfl, hk, hO, hB⟩ := hrel
              obtain ⟨A8, c8, rfl⟩ := owns_form hO.out
              by_cases hkL : k < L
              · obtain ⟨x, hx⟩ : ∃ x, R[k]? = some x := ⟨R[k]'(by have := HLR.out; omega), List.getElem?_eq_getElem _⟩
                obtain ⟨gR, zA, zc, hAr, hgR, hcR, hIR⟩ := ((unhide HM9).below hB.out).get hx
                subst hAr
                have hmem := List.mem_of_getElem? hx
                have hxl := HLX.out x hmem
                have HTK : Hid ((R.take (k + 1)).map (mkM 4) = (R.take k).map (mkM 4) ++ [mkM 4 x]) := Lib.hid (by rw [List.take_add_one, hx, List.map_append]; rfl)
                obtain ⟨zn, hzn⟩ : ∃ z, z = x.length := ⟨_, rfl⟩
                rw [← hzn] at hcR
                have HMK := hide (rmake_any 4 (by decide) x zA zn zc wr hzn (by have := HN.out; omega) (HSX.out x hmem) hIR)
                change Hid (Calls _ _ #[.int .i64 4, _] _ _) at HMK
                have HEM : Hid (mkM 4 x = ⟨#[]⟩ → r = (⟨#[]⟩, 9)) := Lib.hid (fun q => by
                  have he : (⟨#[]⟩ : ByteArray) ∈ R.map (mkM 4) := List.mem_map.2 ⟨x, hmem, q⟩
                  rw [HQ.out]
                  exact bnd_over (fun q => absurd rfl (q _ he)) (.inl he))
                have HSZ := Lib.hid (mkM_size 4 (by decide) x)
                have HO4 := hide hO.out
                have HB4 := hide hB.out
                clear hO hB hx hIR hxl hzn hmem
                generalize mkM 4 x = v at *
                go_wp2_with fail
                refine (unhide HMK).mono ?_
                rintro e w10 ⟨rfl, hb10⟩
                have HB5 := hide ((unhide HB4).trans (hb10.mono (unhide HB4).size))
                have HO5 := hide (owns_below (unhide HO4) hb10)
                clear hb10
                have he := isEmpty_toList v
                by_cases hm : v = ⟨#[]⟩
                · have HR9 : Hid (r = (⟨#[]⟩, 9)) := Lib.hid (HEM.out hm)
                  have HBE := hide ((unhide HB9).trans ((unhide HB5).mono (unhide HB9).size))
                  subst hm
                  go_wp2_with fail
                  go_ret2
                  exact ⟨by rw [HR9.out]; rfl, unhide HBE⟩
                · rw [decide_eq_false hm] at he
                  have he2 : v.toList.isEmpty = false := by rw [List.isEmpty_eq_false_iff]; intro q; rw [q] at he; cases he
                  clear hm HEM
                  have HO6 := hide ((unhide HO5).alloc (.cells #[.string v] 27))
                  have HB6 := hide ((unhide HB5).alloc (unhide HB5).size (.cells #[.string v] 27))
                  have hz6 := (unhide HB6).size
                  go_wp2_with (at_builtin; refine wpList_app _ rfl _ _ 22 rfl w9.heap.size 27 i0 _ 1 16 Tryz.underlying22 hi0 hiz0 hiz1 hiz2 rfl (by decide) _ k (((R.take k).map (mkM 4)).map Value.string) rfl (unhide HO6) (some ⟨w10.heap.size, 0, none⟩) 1 1 [.string v] rfl rfl (new_in w10 27 #[.string v]) (one_str v) (by unfold maxLen; omega) (by omega) hz6 ?_; intro v7 w7 hown7 hgrow7 _)
                  have HB7 := hide (below_app (unhide HB6) (unhide HO6) hgrow7)
                  have HO7 : Hid (w7.ownsRow w9.heap.size 27 1 v7 (k + 1) (((R.take (k + 1)).map (mkM 4)).map Value.string)) := hide (by rw [HTK.out, List.map_append]; exact hown7)
                  clear hown7 hgrow7
                  go_wp2_with fail
                  go_roundw
                  case rel => exact ⟨k + 1, by go_num, by omega, unhide HO7, unhide HB7⟩
                  case measure => simp [intOf]; omega
              · have hkk : k = L := by omega
                subst hkk
                have hO2 := hO.out
                rw [List.take_of_length_le (by rw [← HLR.out]; exact Nat.le_refl _)] at hO2
                have HBN := hide (rbounded_any (R.map (mkM 4)) A8 k c8 wr (by rw [List.length_map]; exact HLR.out) (by omega) (fun s hs => by obtain ⟨x, _, rfl⟩ := List.mem_map.1 hs; have := mkM_size 4 (by decide) x; omega) (InC.own hO2))
                rw [← HQ.out] at HBN
                have HBE := hide ((unhide HB9).trans (hB.out.mono (unhide HB9).size))
                clear hO hB hO2
                go_wp2_with fail
                refine (unhide HBN).mono ?_
                rintro e w10 ⟨rfl, hb10⟩
                have HBF := hide ((unhide HBE).trans (hb10.mono (unhide HBE).size))
                clear hb10
                go_wp2_with fail
                go_ret2
                exact ⟨rfl, unhide HBF⟩

end Go.Proofs.YtkdlmgahkckjbaaGreat
