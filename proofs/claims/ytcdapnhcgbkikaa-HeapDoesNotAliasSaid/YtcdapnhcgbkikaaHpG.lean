/- Restore. Conditions: at most 2^43 references. -/
-- by tools/gen_hpg.py
import Derived.Test.YtcdapnhcgbkikaaHpF
namespace Go.Proofs.Ytcdapnhcgbkikaa
open Go.RowKit

theorem cell_down {w w' : World} {p : Addr} {v : Value} (hb : Below w.heap.size w w') (h : w.cell? p = some v) : w'.cell? p = some v := by
  have := World.block_lt_of_cell? w p h
  exact (hb.cell (p := p) this).trans h
theorem frz_down {w w' : World} {b o : Nat} (hb : Below w.heap.size w w') (hl : b < w.heap.size) (h : w.frozen? ⟨b, o, none⟩ = false) : w'.frozen? ⟨b, o, none⟩ = false := (hb.frozen (p := ⟨b, o, none⟩) hl).trans h
def restoreM (M : List Cel) (r : Int) (c : Cel) : Int × List Cel :=
  if hasB M.length r = true then
    if (cellM M r.toNat).1 = 2 then
      if c.1 = 1 ∧ refsB c.2.2 (M.length : Int) = true then (0, M.set r.toNat c) else (1, M)
    else (20, M)
  else (21, M)
def RestorePost (w : World) (S : Nat → Prop) (g : Nat) (most : Int) (Fn : Nat → Nat) (q : Int × List Cel) (e : Ending) (w' : World) : Prop :=
  e = .returned (.int .i64 q.1) ∧ PH w' (Sx S w w') g most q.2 Fn ∧ Keep (Out S w) w w'
set_option linter.unusedSimpArgs false in
set_option maxRecDepth 100000 in
set_option maxHeartbeats 6400000 in
theorem restore_any {w : World} {S : Nat → Prop} {g : Nat} {most : Int} {M : List Cel} {Fn : Nat → Nat} (h : PH w S g most M Fn) (r : Int) (k m : Int) (l : List Int) (A2 : Option Addr) (n2 c2 : Nat) (hn2 : n2 = l.length) (hl2 : n2 ≤ 8796093022208) (hA2 : InC w A2 (intV l)) :
    Calls Try.prog 32 #[.pointer (some ⟨g, 0, none⟩), .int .i64 r, .agg #[.int .i64 k, .int .i64 m, .slice A2 n2 c2]] w (RestorePost w S g most Fn (restoreM M r (k, m, l))) := by
  have HLT := hide h.lt
  obtain ⟨cs, A, n, c, rk, h1, h2⟩ := h
  have hn : n = M.length := by rw [h1.hp.len cellsP_len (by decide), cel_len h2]
  have hnl := h1.hp.len cellsP_len (by decide)
  obtain ⟨b5, hb5⟩ : ∃ b, Hid (b = w.heap.size) := ⟨_, Lib.hid rfl⟩
  have hb5w : w.heap.size ≤ b5 := Nat.le_of_eq hb5.out.symm
  have hb5S : ¬ S b5 := fun q => by have := h1.hp.lt b5 q; omega
  have HP1 := hide (h1.keep_alloc (.cells #[.int .i64 k, .int .i64 m, .slice A2 n2 c2] 43))
  have HK1 := hide (Blk.new w 43 #[.int .i64 k, .int .i64 m, .slice A2 n2 c2])
  have HB1 := hide ((Below.refl w.heap.size w).alloc (Nat.le_refl _) (.cells #[.int .i64 k, .int .i64 m, .slice A2 n2 c2] 43))
  have HI1 := hide (hA2.alloc (.cells #[.int .i64 k, .int .i64 m, .slice A2 n2 c2] 43))
  have HC1 := hide (has_any (unhide HP1).hp r)
  rw [← hb5.out] at HK1
  obtain ⟨qr, hqr⟩ : ∃ q, Hid (q = restoreM M r (k, m, l)) := ⟨_, Lib.hid rfl⟩
  rw [← hqr.out]
  have HOK : Hid (∀ W, Below w.heap.size w W → PL W S g most cs A n c Fn rk → ∀ z : Int, qr = (z, M) → RestorePost w S g most Fn qr (.returned (.int .i64 z)) W) := Lib.hid (fun W hb hP z hz => by
    rw [hz]
    exact ⟨rfl, (show PH W S g most M Fn from ⟨cs, A, n, c, rk, hP, h2⟩).sx h1.hp.lt hb.size, keep_below hb⟩)
  cases hbr : hasB n r with
  | false =>
    rw [hbr] at HC1
    have HQ : Hid (qr = (21, M)) := Lib.hid (by rw [hqr.out]; unfold restoreM; rw [← hn, hbr, if_neg (by decide)])
    clear h1 h2 hbr hn hn2 hqr hnl hA2
    go_enter Try.func32, Try.ntmps32
    go_wp2_with fail
    refine (unhide HC1).mono ?_
    rintro e w2 ⟨rfl, hw2⟩
    subst hw2
    go_wp2_with fail
    go_ret
    exact HOK.out _ (unhide HB1) (unhide HP1) 21 HQ.out
  | true =>
    rw [hbr] at HC1
    obtain ⟨i, hri, hin⟩ := has_nat hbr
    subst hri
    obtain ⟨x, hx⟩ : ∃ x, cs[i]? = some x := ⟨_, List.getElem?_eq_getElem (by omega)⟩
    have hxc : cellM M i = x.cel := by unfold cellM; rw [cel_at h2 hx]; rfl
    have HQ : Hid (qr = if x.kind = 2 then if k = 1 ∧ refsB l (n : Int) = true then (0, M.set i (k, m, l)) else (1, M) else (20, M)) := Lib.hid (by rw [hqr.out]; unfold restoreM; rw [← hn, hbr, if_pos rfl, Int.toNat_natCast, hxc]; rfl)
    have HL := hide (isHole_any (unhide HP1).hp hx)
    have HV := hide (fun W hI => validRefs_any l A2 n2 c2 (n : Int) W hn2 hl2 hI)
    have HCP := hide (fun W hI => copied_any k m l A2 n2 c2 W hn2 hl2 hI)
    have HXX := hide hx
    have HCM := Lib.hid h2
    have HNN := Lib.hid hnl
    have HN2 := Lib.hid hn2
    by_cases hk : x.kind = 2
    · have HL' : Hid (Calls Try.prog 42 #[.pointer (some ⟨g, 0, none⟩), .int .i64 i] (w.alloc (.cells #[.int .i64 k, .int .i64 m, .slice A2 n2 c2] 43)) fun e w' => e = .returned (.bool true) ∧ w' = w.alloc (.cells #[.int .i64 k, .int .i64 m, .slice A2 n2 c2] 43)) := by
        have : (x.kind == 2) = true := by rw [hk]; rfl
        rw [this] at HL; exact HL
      have HKD := hide hk
      rw [if_pos hk] at HQ
      clear h1 h2 hbr hn hnl hn2 hqr hx hxc hk HL hA2
      go_enter Try.func32, Try.ntmps32
      go_wp2_with fail
      simp only [← hb5.out]
      generalize w.alloc (.cells #[.int .i64 k, .int .i64 m, .slice A2 n2 c2] 43) = w1 at *
      refine (unhide HC1).mono ?_
      rintro e w2 ⟨rfl, hw2⟩
      subst hw2
      go_wp2_with fail
      refine (unhide HL').mono ?_
      rintro e w3 ⟨rfl, hw3⟩
      subst hw3
      have b1 := (unhide HP1).hp.box1
      have a0 := (unhide HK1).cell 0
      have a1 := (unhide HK1).cell 1
      have a2 := (unhide HK1).cell 2
      change w3.cell? ⟨b5, 0, none⟩ = some (.int .i64 k) at a0
      change w3.cell? ⟨b5, 1, none⟩ = some (.int .i64 m) at a1
      change w3.cell? ⟨b5, 2, none⟩ = some (.slice A2 n2 c2) at a2
      have g2 : (0 : Int) ≤ (i : Int) := by omega
      have g3 : (i : Int) < (n : Int) := by omega
      by_cases hk1 : k = 1
      · subst hk1
        have ge : ((1 : Int) != 1) = false := rfl
        cases hv : refsB l (n : Int) with
        | false =>
          rw [hv] at HV
          have HQ2 : Hid (qr = (1, M)) := Lib.hid (by rw [HQ.out, hv, if_neg (by simp)])
          clear HQ hv
          go_wp2_with fail
          go_quiet ((go_at_call 38; exact Calls.quiet_of_same ((unhide HV) _ (unhide HI1))))
          go_wp2_with fail
          go_ret
          have hD := below_drewN (Below.refl w3.heap.size w3) nq
          exact HOK.out _ ((unhide HB1).trans (hD.mono (unhide HB1).size)) ((unhide HP1).below hD) 1 HQ2.out
        | true =>
          rw [hv] at HV
          have HQ2 : Hid (qr = (0, M.set i (1, m, l))) := Lib.hid (by rw [HQ.out, hv, if_pos ⟨rfl, rfl⟩])
          clear HQ hv
          go_wp2_with fail
          go_quiet ((go_at_call 38; exact Calls.quiet_of_same ((unhide HV) _ (unhide HI1))))
          have hD := below_drewN (Below.refl w3.heap.size w3) nq
          have HB3 := hide ((unhide HB1).trans (hD.mono (unhide HB1).size))
          have HP3 := hide ((unhide HP1).below hD)
          have HK3 := hide ((unhide HK1).drewN nq)
          have HI3 := hide ((unhide HI1).drewN nq)
          generalize w3.drewN nq = w4 at *
          have b1 := (unhide HP3).hp.box1
          have a0 := (unhide HK3).cell 0
          have a1 := (unhide HK3).cell 1
          have a2 := (unhide HK3).cell 2
          change w4.cell? ⟨b5, 0, none⟩ = some (.int .i64 1) at a0
          change w4.cell? ⟨b5, 1, none⟩ = some (.int .i64 m) at a1
          change w4.cell? ⟨b5, 2, none⟩ = some (.slice A2 n2 c2) at a2
          clear hD HP1 HK1 HI1 HC1 HL' HV HOK
          go_wp2_with fail
          obtain ⟨bb, hA, hbb, hnc, hfn, ⟨c0, c1, c2', c3⟩, hfz⟩ := (unhide HP3).hp.at_ (unhide HXX)
          subst hA
          have hbbS : S bb := (unhide HP3).hp.rowS bb rfl
          have hgb : g ≠ bb := fun e => own_blk_ne (unhide HP3).hp.row (unhide HP3).hp.blk (by decide) (by rw [e]; rfl)
          have h5b : b5 ≠ bb := fun e => hb5S (by rw [e]; exact hbbS)
          have HCZ := hide (And.intro c0 (And.intro c1 (And.intro c2' c3)))
          have HFZ := hide hfz
          clear hfz c0 c1 c2' c3
          have fd0 : Hid (w4.drew.cell? ⟨g, 1, none⟩ = some (.slice (some ⟨bb, 0, none⟩) n c)) := hide b1
          have fd1 : Hid (w4.drew.cell? ⟨b5, 0, none⟩ = some (.int .i64 1)) := hide a0
          have fd2 : Hid (w4.drew.cell? ⟨b5, 1, none⟩ = some (.int .i64 m)) := hide a1
          have fd3 : Hid (w4.drew.cell? ⟨b5, 2, none⟩ = some (.slice A2 n2 c2)) := hide a2
          have HCZD : Hid (w4.drew.cell? ⟨bb, i * 4, none⟩ = some (.int .i64 x.kind) ∧ w4.drew.cell? ⟨bb, i * 4 + 1, none⟩ = some (.int .i64 x.num) ∧ w4.drew.cell? ⟨bb, i * 4 + 2, none⟩ = some x.v ∧ w4.drew.cell? ⟨bb, i * 4 + 3, none⟩ = some (.int .i64 x.ahead)) := HCZ
          have HFZD : Hid (∀ o, w4.drew.frozen? ⟨bb, o, none⟩ = false) := HFZ
          have HPDr := hide ((unhide HP3).keep ((Keep.refl _ _).drew))
          have HBDr := hide (below_drew (unhide HB3))
          have HI3D := hide (unhide HI3).drew
          have hbbd : bb < w4.drew.heap.size := hbb
          clear HCZ HFZ HP3 HB3 HK3 b1 a0 a1 a2 hbb HI3
          refine wp_region_noPanic ?_
          refine wp_region_held_drew (S := fun W => W.cell? ⟨g, 1, none⟩ = some (.slice (some ⟨bb, 0, none⟩) n c) ∧ W.cell? ⟨b5, 0, none⟩ = some (.int .i64 1) ∧ W.cell? ⟨b5, 1, none⟩ = some (.int .i64 m) ∧ W.cell? ⟨b5, 2, none⟩ = some (.slice A2 n2 c2)) (by kernel_rfl) ⟨fd0, fd1, fd2, fd3⟩ (fun _ => ?_)
          generalize w4.drew = wd at *
          try simp only [Act.put, List.setIfInBounds_toArray, List.set_cons_zero, List.set_cons_succ]
          refine wpAnyH_take (i := 0) (oi := { dst := some 29, op := Op.move (Operand.tmp 0), type := 23, pos := "heap.go:92", after := #[], guard := none }) (v := ?_) rfl (by kernel_rfl) (by kernel_rfl) (by kernel_rfl) (fun _ _ _ h => h) (Or.inl ⟨by rfl, ?_⟩) ⟨fd0, fd1, fd2, fd3⟩ ?_
          rotate_left 1
          · intro w hSw
            obtain ⟨hSw0, hSw1, hSw2, hSw3⟩ := hSw
            go_simp
            first
              | done
              | with_reducible rfl
              | rw [if_neg (by omega)]
          try simp only [Act.put, List.setIfInBounds_toArray, List.set_cons_zero, List.set_cons_succ]
          refine wpAnyH_take (i := 1) (oi := { dst := some 30, op := Op.nilCheck (Operand.tmp 29), type := 0, pos := "heap.go:92", after := #[{ on := 0, ground := Ground.data }], guard := none }) (v := ?_) rfl (by kernel_rfl) (by kernel_rfl) (by kernel_rfl) (fun _ _ _ h => h) (Or.inl ⟨by rfl, ?_⟩) ⟨fd0, fd1, fd2, fd3⟩ ?_
          rotate_left 1
          · intro w hSw
            obtain ⟨hSw0, hSw1, hSw2, hSw3⟩ := hSw
            go_simp
            first
              | done
              | with_reducible rfl
              | rw [if_neg (by omega)]
          try simp only [Act.put, List.setIfInBounds_toArray, List.set_cons_zero, List.set_cons_succ]
          refine wpAnyH_take (i := 2) (oi := { dst := some 31, op := Op.fieldAddr 66 (Operand.tmp 30) 1, type := 0, pos := "heap.go:92", after := #[{ on := 1, ground := Ground.data }], guard := none }) (v := ?_) rfl (by kernel_rfl) (by kernel_rfl) (by kernel_rfl) (fun _ _ _ h => h) (Or.inl ⟨by rfl, ?_⟩) ⟨fd0, fd1, fd2, fd3⟩ ?_
          rotate_left 1
          · intro w hSw
            obtain ⟨hSw0, hSw1, hSw2, hSw3⟩ := hSw
            go_simp
            first
              | done
              | with_reducible rfl
              | rw [if_neg (by omega)]
          try simp only [Act.put, List.setIfInBounds_toArray, List.set_cons_zero, List.set_cons_succ]
          refine wpAnyH_take (i := 3) (oi := { dst := some 32, op := Op.load 64 (Operand.tmp 31), type := 64, pos := "heap.go:92", after := #[{ on := 2, ground := Ground.data }], guard := none }) (v := ?_) rfl (by kernel_rfl) (by kernel_rfl) (by kernel_rfl) (fun _ _ _ h => h) (Or.inl ⟨by rfl, ?_⟩) ⟨fd0, fd1, fd2, fd3⟩ ?_
          rotate_left 1
          · intro w hSw
            obtain ⟨hSw0, hSw1, hSw2, hSw3⟩ := hSw
            go_simp
            first
              | done
              | with_reducible rfl
              | rw [if_neg (by omega)]
          try simp only [Act.put, List.setIfInBounds_toArray, List.set_cons_zero, List.set_cons_succ]
          refine wpAnyH_take (i := 4) (oi := { dst := some 33, op := Op.move (Operand.tmp 1), type := 3, pos := "heap.go:92", after := #[], guard := none }) (v := ?_) rfl (by kernel_rfl) (by kernel_rfl) (by kernel_rfl) (fun _ _ _ h => h) (Or.inl ⟨by rfl, ?_⟩) ⟨fd0, fd1, fd2, fd3⟩ ?_
          rotate_left 1
          · intro w hSw
            obtain ⟨hSw0, hSw1, hSw2, hSw3⟩ := hSw
            go_simp
            first
              | done
              | with_reducible rfl
              | rw [if_neg (by omega)]
          try simp only [Act.put, List.setIfInBounds_toArray, List.set_cons_zero, List.set_cons_succ]
          refine wpAnyH_take (i := 5) (oi := { dst := some 34, op := Op.load 43 (Operand.tmp 5), type := 43, pos := "heap.go:92", after := #[], guard := none }) (v := ?_) rfl (by kernel_rfl) (by kernel_rfl) (by kernel_rfl) (fun _ _ _ h => h) (Or.inl ⟨by rfl, ?_⟩) ⟨fd0, fd1, fd2, fd3⟩ ?_
          rotate_left 1
          · intro w hSw
            obtain ⟨hSw0, hSw1, hSw2, hSw3⟩ := hSw
            go_simp
            first
              | done
              | with_reducible rfl
              | rw [if_neg (by omega)]
          try simp only [Act.put, List.setIfInBounds_toArray, List.set_cons_zero, List.set_cons_succ]
          refine wpAnyH_ready (rs := [6]) (by kernel_rfl) (by simp) ?_
          refine AllReadyH.cons (o := { dst := some 35, op := Op.call { callee := Callee.value (Operand.func 39), args := #[Operand.tmp 34], argTypes := #[43] }, type := 43, pos := "heap.go:92", after := #[{ on := 5, ground := Ground.data }], guard := none }) rfl (fun K hK => ?_) AllReadyH.nil
          go_simp
          go_at_call 39
          refine ((unhide HCP) _ (unhide HI3D)).mono ?_
          rintro e w501 ⟨v6, rfl, ho6, hb6⟩
          have fe0 := hide (cell_down hb6 (unhide fd0))
          have fe1 := hide (cell_down hb6 (unhide fd1))
          have fe2 := hide (cell_down hb6 (unhide fd2))
          have fe3 := hide (cell_down hb6 (unhide fd3))
          have HO6 := hide ho6
          have HB6 := hide hb6
          obtain ⟨A6, c6, hv6⟩ := owns_form ho6
          subst hv6
          clear ho6 hb6
          try dsimp only
          refine hK.out _ _ ⟨unhide fe0, unhide fe1, unhide fe2, unhide fe3⟩ (fun _ => ?_)
          clear hK K
          try simp only [Act.put, List.setIfInBounds_toArray, List.set_cons_zero, List.set_cons_succ]
          refine wpAnyH_take (i := 7) (oi := { dst := some 36, op := Op.build 71 #[(0, Operand.tmp 35)], type := 71, pos := "heap.go:92", after := #[{ on := 6, ground := Ground.data }], guard := none }) (v := ?_) rfl (by kernel_rfl) (by kernel_rfl) (by kernel_rfl) (fun _ _ _ h => h) (Or.inl ⟨by rfl, ?_⟩) ⟨unhide fe0, unhide fe1, unhide fe2, unhide fe3⟩ ?_
          rotate_left 1
          · intro w hSw
            obtain ⟨hSw0, hSw1, hSw2, hSw3⟩ := hSw
            go_simp
            first
              | done
              | with_reducible rfl
              | rw [if_neg (by omega)]
          try simp only [Act.put, List.setIfInBounds_toArray, List.set_cons_zero, List.set_cons_succ]
          refine wpAnyH_take (i := 8) (oi := { dst := some 37, op := Op.indexAddr 64 (Operand.tmp 32) (Operand.tmp 33), type := 0, pos := "heap.go:92", after := #[{ on := 3, ground := Ground.data }, { on := 4, ground := Ground.data }, { on := 0, ground := Ground.phase }, { on := 1, ground := Ground.phase }, { on := 2, ground := Ground.phase }, { on := 3, ground := Ground.phase }, { on := 4, ground := Ground.phase }, { on := 5, ground := Ground.phase }, { on := 6, ground := Ground.phase }, { on := 7, ground := Ground.phase }], guard := none }) (v := ?_) rfl (by kernel_rfl) (by kernel_rfl) (by kernel_rfl) (fun _ _ _ h => h) (Or.inl ⟨by rfl, ?_⟩) ⟨unhide fe0, unhide fe1, unhide fe2, unhide fe3⟩ ?_
          rotate_left 1
          · intro w hSw
            obtain ⟨hSw0, hSw1, hSw2, hSw3⟩ := hSw
            go_simp
            first
              | done
              | with_reducible rfl
              | rw [if_neg (by omega)]
          try simp only [Act.put, List.setIfInBounds_toArray, List.set_cons_zero, List.set_cons_succ]
          refine wpAnyH_ready (rs := [9]) (by kernel_rfl) (by simp) ?_
          refine AllReadyH.cons (o := { dst := none, op := Op.store 71 (Operand.tmp 37) (Operand.tmp 36), type := 0, pos := "heap.go:92", after := #[{ on := 8, ground := Ground.data }, { on := 7, ground := Ground.data }, { on := 6, ground := Ground.chain }, { on := 0, ground := Ground.phase }, { on := 1, ground := Ground.phase }, { on := 2, ground := Ground.phase }, { on := 3, ground := Ground.phase }, { on := 4, ground := Ground.phase }, { on := 5, ground := Ground.phase }, { on := 6, ground := Ground.phase }, { on := 7, ground := Ground.phase }], guard := none }) rfl (fun K hK => ?_) AllReadyH.nil
          have p0 := cell_down (unhide HB6) (unhide HCZD).1
          have p1 := cell_down (unhide HB6) (unhide HCZD).2.1
          have p2 := cell_down (unhide HB6) (unhide HCZD).2.2.1
          have p3 := cell_down (unhide HB6) (unhide HCZD).2.2.2
          have q0 := frz_down (unhide HB6) hbbd ((unhide HFZD) (i * 4))
          have q1 := frz_down (unhide HB6) hbbd ((unhide HFZD) (i * 4 + 1))
          have q2 := frz_down (unhide HB6) hbbd ((unhide HFZD) (i * 4 + 2))
          have q3 := frz_down (unhide HB6) hbbd ((unhide HFZD) (i * 4 + 3))
          go_simp
          try dsimp only
          have kS := ((((Keep.refl (fun k => k ≠ bb) w501).setCell (p := ⟨bb, i * 4, none⟩) (fun q => q rfl) (.int .i64 1)).setCell (p := ⟨bb, i * 4 + 1, none⟩) (fun q => q rfl) (.int .i64 m)).setCell (p := ⟨bb, i * 4 + 2, none⟩) (fun q => q rfl) (.slice A6 l.length c6)).setCell (p := ⟨bb, i * 4 + 3, none⟩) (fun q => q rfl) (.int .i64 0)
          refine hK.out _ _ ⟨((kS.cell (b := g) hgb 1).trans (unhide fe0)), ((kS.cell (b := b5) h5b 0).trans (unhide fe1)), ((kS.cell (b := b5) h5b 1).trans (unhide fe2)), ((kS.cell (b := b5) h5b 2).trans (unhide fe3))⟩ (fun _ => ?_)
          clear hK K
          try simp only [Act.put, List.setIfInBounds_toArray, List.set_cons_zero, List.set_cons_succ]
          refine wpAnyH_done (by kernel_rfl) ?_ _
          refine NoPanic.normal ?_
          have hil : i < cs.length := (List.getElem?_eq_some_iff.1 (unhide HXX)).1
          have hP6 := (unhide HPDr).below (unhide HB6)
          have hB6s := (unhide HB6).size
          have hput := hP6.put (S' := fun k => S k ∨ (wd.heap.size ≤ k ∧ k < w501.heap.size)) (i := i) (y := ⟨1, m, l, .slice A6 l.length c6, 0⟩) rfl hil (hP6.lk.set_ (unhide HXX) (by rw [unhide HKD]; decide) (show (1 : Int) ≠ 3 by decide)) (owns_base (unhide HO6) (Nat.zero_le _))
            (fun b q => by
              have q2 := (unhide HO6).lt b q
              exact ⟨.inr q2, fun j' x' _ hx' he => by have := (unhide HPDr).hp.lt _ ((unhide HPDr).hp.refS j' x' _ hx' he); omega⟩) (fun _ q => .inl q) (fun k q => by
              rcases q with q | q
              · exact Nat.lt_of_lt_of_le ((unhide HPDr).hp.lt k q) hB6s
              · exact q.2)
          have HPF := hide hput.1
          have HKF := hide (((keep_below ((unhide HBDr).trans ((unhide HB6).mono (unhide HBDr).size))) : Keep (Out S w) w w501).trans (hput.2 (Out S w) (fun q => q.2 hbbS)))
          have HCMF := hide (cel_set HCM.out i ⟨1, m, l, .slice A6 l.length c6, 0⟩)
          have HSF := hide (unhide HBDr).size
          have HS6 := hide ((hput.2 (fun _ => False) id).size)
          generalize (((w501.setCell ⟨bb, i * 4, none⟩ (.int .i64 1)).setCell ⟨bb, i * 4 + 1, none⟩ (.int .i64 m)).setCell ⟨bb, i * 4 + 2, none⟩ (.slice A6 l.length c6)).setCell ⟨bb, i * 4 + 3, none⟩ (.int .i64 0) = W at *
          clear hput hP6 hB6s kS
          go_wp2_with fail
          go_ret
          rw [HQ2.out]
          exact ⟨rfl, (show PH W _ g most _ _ from ⟨_, _, n, c, _, unhide HPF, unhide HCMF⟩).grow (fun k q => by
            rcases q with q | q
            · exact .inl q
            · exact .inr ⟨Nat.le_trans (unhide HSF) q.1, Nat.lt_of_lt_of_le q.2 (unhide HS6)⟩) (Sx.lt (unhide HLT) (unhide HKF).size), unhide HKF⟩
      · have ge : (k != 1) = true := by simpa using hk1
        have HQ2 : Hid (qr = (1, M)) := Lib.hid (by rw [HQ.out, if_neg (by simp [hk1])])
        have ge0 : (k == 1) = false := beq_eq_false_iff_ne.2 hk1
        clear HQ hk1
        go_wp2_with fail
        have HRD := hide (HOK.out w3.drew (below_drew (unhide HB1)) ((unhide HP1).keep ((Keep.refl _ _).drew)) 1 HQ2.out)
        clear HOK HQ2 HB1 HP1 HK1 HC1 HL' HI1
        have fd0 : Hid (w3.drew.cell? ⟨b5, 0, none⟩ = some (.int .i64 k)) := hide a0
        refine wp_region_noPanic ?_
        refine wp_region_held_drew (S := fun W => W.cell? ⟨b5, 0, none⟩ = some (.int .i64 k)) (by kernel_rfl) fd0 (fun _ => ?_)
        generalize w3.drew = wd at *
        try simp only [Act.put, List.setIfInBounds_toArray, List.set_cons_zero, List.set_cons_succ]
        refine wpAnyH_take (i := 0) (oi := { dst := some 15, op := Op.fieldAddr 43 (Operand.tmp 5) 0, type := 0, pos := "heap.go:89", after := #[], guard := none }) (v := ?_) rfl (by kernel_rfl) (by kernel_rfl) (by kernel_rfl) (fun _ _ _ h => h) (Or.inl ⟨by rfl, ?_⟩) fd0 ?_
        rotate_left 1
        · intro w hSw
          try dsimp only at hSw
          go_simp
          first
            | done
            | with_reducible rfl
            | rw [if_neg (by omega)]
        try simp only [Act.put, List.setIfInBounds_toArray, List.set_cons_zero, List.set_cons_succ]
        refine wpAnyH_take (i := 1) (oi := { dst := some 16, op := Op.load 3 (Operand.tmp 15), type := 3, pos := "heap.go:89", after := #[{ on := 0, ground := Ground.data }], guard := none }) (v := ?_) rfl (by kernel_rfl) (by kernel_rfl) (by kernel_rfl) (fun _ _ _ h => h) (Or.inl ⟨by rfl, ?_⟩) fd0 ?_
        rotate_left 1
        · intro w hSw
          try dsimp only at hSw
          go_simp
          first
            | done
            | with_reducible rfl
            | rw [if_neg (by omega)]
        try simp only [Act.put, List.setIfInBounds_toArray, List.set_cons_zero, List.set_cons_succ]
        refine wpAnyH_take (i := 2) (oi := { dst := some 17, op := Op.binOp BinOp.neq 3 (Operand.tmp 16) (Operand.const (Value.int IntKind.i64 1)) 3, type := 4, pos := "heap.go:89", after := #[{ on := 1, ground := Ground.data }], guard := none }) (v := ?_) rfl (by kernel_rfl) (by kernel_rfl) (by kernel_rfl) (fun _ _ _ h => h) (Or.inl ⟨by rfl, ?_⟩) fd0 ?_
        rotate_left 1
        · intro w hSw
          try dsimp only at hSw
          go_simp
          first
            | done
            | with_reducible rfl
            | rw [if_neg (by omega)]
        try simp only [Act.put, List.setIfInBounds_toArray, List.set_cons_zero, List.set_cons_succ]
        refine wpAnyH_take (i := 3) (oi := { dst := some 18, op := Op.move (Operand.tmp 17), type := 4, pos := "heap.go:89", after := #[{ on := 2, ground := Ground.data }], guard := none }) (v := ?_) rfl (by kernel_rfl) (by kernel_rfl) (by kernel_rfl) (fun _ _ _ h => h) (Or.inl ⟨by rfl, ?_⟩) fd0 ?_
        rotate_left 1
        · intro w hSw
          try dsimp only at hSw
          go_simp
          first
            | done
            | with_reducible rfl
            | rw [if_neg (by omega)]
        try simp only [Act.put, List.setIfInBounds_toArray, List.set_cons_zero, List.set_cons_succ]
        refine wpAnyH_take (i := 4) (oi := { dst := some 19, op := Op.fieldAddr 43 (Operand.tmp 5) 2, type := 0, pos := "heap.go:89", after := #[{ on := 3, ground := Ground.guard }], guard := some (3, false) }) (v := undef) rfl (by kernel_rfl) (by kernel_rfl) (by kernel_rfl) (fun _ _ _ h => h) (Or.inr ⟨by rfl, rfl⟩) fd0 ?_
        try simp only [Act.put, List.setIfInBounds_toArray, List.set_cons_zero, List.set_cons_succ]
        refine wpAnyH_take (i := 5) (oi := { dst := some 20, op := Op.load 41 (Operand.tmp 19), type := 41, pos := "heap.go:89", after := #[{ on := 4, ground := Ground.data }, { on := 3, ground := Ground.guard }], guard := some (3, false) }) (v := undef) rfl (by kernel_rfl) (by kernel_rfl) (by kernel_rfl) (fun _ _ _ h => h) (Or.inr ⟨by rfl, rfl⟩) fd0 ?_
        try simp only [Act.put, List.setIfInBounds_toArray, List.set_cons_zero, List.set_cons_succ]
        refine wpAnyH_take (i := 6) (oi := { dst := some 21, op := Op.move (Operand.tmp 0), type := 23, pos := "heap.go:89", after := #[{ on := 3, ground := Ground.guard }], guard := some (3, false) }) (v := undef) rfl (by kernel_rfl) (by kernel_rfl) (by kernel_rfl) (fun _ _ _ h => h) (Or.inr ⟨by rfl, rfl⟩) fd0 ?_
        try simp only [Act.put, List.setIfInBounds_toArray, List.set_cons_zero, List.set_cons_succ]
        refine wpAnyH_take (i := 7) (oi := { dst := some 22, op := Op.nilCheck (Operand.tmp 21), type := 0, pos := "heap.go:89", after := #[{ on := 6, ground := Ground.data }, { on := 3, ground := Ground.guard }], guard := some (3, false) }) (v := undef) rfl (by kernel_rfl) (by kernel_rfl) (by kernel_rfl) (fun _ _ _ h => h) (Or.inr ⟨by rfl, rfl⟩) fd0 ?_
        try simp only [Act.put, List.setIfInBounds_toArray, List.set_cons_zero, List.set_cons_succ]
        refine wpAnyH_take (i := 8) (oi := { dst := some 23, op := Op.fieldAddr 66 (Operand.tmp 22) 1, type := 0, pos := "heap.go:89", after := #[{ on := 7, ground := Ground.data }, { on := 3, ground := Ground.guard }], guard := some (3, false) }) (v := undef) rfl (by kernel_rfl) (by kernel_rfl) (by kernel_rfl) (fun _ _ _ h => h) (Or.inr ⟨by rfl, rfl⟩) fd0 ?_
        try simp only [Act.put, List.setIfInBounds_toArray, List.set_cons_zero, List.set_cons_succ]
        refine wpAnyH_take (i := 9) (oi := { dst := some 24, op := Op.load 64 (Operand.tmp 23), type := 64, pos := "heap.go:89", after := #[{ on := 8, ground := Ground.data }, { on := 3, ground := Ground.guard }], guard := some (3, false) }) (v := undef) rfl (by kernel_rfl) (by kernel_rfl) (by kernel_rfl) (fun _ _ _ h => h) (Or.inr ⟨by rfl, rfl⟩) fd0 ?_
        try simp only [Act.put, List.setIfInBounds_toArray, List.set_cons_zero, List.set_cons_succ]
        refine wpAnyH_take (i := 10) (oi := { dst := some 25, op := Op.call { callee := Callee.builtin Builtin.len, args := #[Operand.tmp 24], argTypes := #[64] }, type := 3, pos := "heap.go:89", after := #[{ on := 9, ground := Ground.data }, { on := 3, ground := Ground.guard }], guard := some (3, false) }) (v := undef) rfl (by kernel_rfl) (by kernel_rfl) (by kernel_rfl) (fun _ _ _ h => h) (Or.inr ⟨by rfl, rfl⟩) fd0 ?_
        try simp only [Act.put, List.setIfInBounds_toArray, List.set_cons_zero, List.set_cons_succ]
        refine wpAnyH_take (i := 11) (oi := { dst := some 26, op := Op.call { callee := Callee.value (Operand.func 38), args := #[Operand.tmp 20, Operand.tmp 25], argTypes := #[41, 3] }, type := 4, pos := "heap.go:89", after := #[{ on := 5, ground := Ground.data }, { on := 10, ground := Ground.data }, { on := 3, ground := Ground.chain }, { on := 3, ground := Ground.guard }], guard := some (3, false) }) (v := undef) rfl (by kernel_rfl) (by kernel_rfl) (by kernel_rfl) (fun _ _ _ h => h) (Or.inr ⟨by rfl, rfl⟩) fd0 ?_
        try simp only [Act.put, List.setIfInBounds_toArray, List.set_cons_zero, List.set_cons_succ]
        refine wpAnyH_take (i := 12) (oi := { dst := some 27, op := Op.unOp UnOp.not 4 (Operand.tmp 26), type := 4, pos := "heap.go:89", after := #[{ on := 11, ground := Ground.data }, { on := 3, ground := Ground.guard }], guard := some (3, false) }) (v := undef) rfl (by kernel_rfl) (by kernel_rfl) (by kernel_rfl) (fun _ _ _ h => h) (Or.inr ⟨by rfl, rfl⟩) fd0 ?_
        try simp only [Act.put, List.setIfInBounds_toArray, List.set_cons_zero, List.set_cons_succ]
        refine wpAnyH_take (i := 13) (oi := { dst := some 28, op := Op.pick (Operand.tmp 18) (Operand.const (Value.bool true)) (Operand.tmp 27), type := 4, pos := "heap.go:89", after := #[{ on := 3, ground := Ground.data }, { on := 12, ground := Ground.data }], guard := none }) (v := ?_) rfl (by kernel_rfl) (by kernel_rfl) (by kernel_rfl) (fun _ _ _ h => h) (Or.inl ⟨by rfl, ?_⟩) fd0 ?_
        rotate_left 1
        · intro w hSw
          try dsimp only at hSw
          go_simp
          first
            | done
            | with_reducible rfl
            | rw [if_neg (by omega)]
        try simp only [Act.put, List.setIfInBounds_toArray, List.set_cons_zero, List.set_cons_succ]
        refine wpAnyH_done (by kernel_rfl) ?_ _
        refine NoPanic.normal ?_
        go_wp2_with fail
        go_ret
        exact unhide HRD
    · have HL' : Hid (Calls Try.prog 42 #[.pointer (some ⟨g, 0, none⟩), .int .i64 i] (w.alloc (.cells #[.int .i64 k, .int .i64 m, .slice A2 n2 c2] 43)) fun e w' => e = .returned (.bool false) ∧ w' = w.alloc (.cells #[.int .i64 k, .int .i64 m, .slice A2 n2 c2] 43)) := by
        have : (x.kind == 2) = false := beq_eq_false_iff_ne.2 hk
        rw [this] at HL; exact HL
      have HQ2 : Hid (qr = (20, M)) := Lib.hid (by rw [HQ.out, if_neg hk])
      clear h1 h2 hbr hn hnl hn2 hqr hx hxc hk HL HQ hA2
      go_enter Try.func32, Try.ntmps32
      go_wp2_with fail
      simp only [← hb5.out]
      generalize w.alloc (.cells #[.int .i64 k, .int .i64 m, .slice A2 n2 c2] 43) = w1 at *
      refine (unhide HC1).mono ?_
      rintro e w2 ⟨rfl, hw2⟩
      subst hw2
      go_wp2_with fail
      refine (unhide HL').mono ?_
      rintro e w3 ⟨rfl, hw3⟩
      subst hw3
      go_wp2_with fail
      go_ret
      exact HOK.out _ (unhide HB1) (unhide HP1) 20 HQ2.out
end Go.Proofs.Ytcdapnhcgbkikaa
