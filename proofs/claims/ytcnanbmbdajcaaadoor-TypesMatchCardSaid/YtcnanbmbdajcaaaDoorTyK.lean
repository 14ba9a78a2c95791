/- Substitutions: what the reference's replace and Apply return. Condition: lists have a length. -/
import Derived.Test.YtcnanbmbdajcaaaDoorTyI
import Derived.Test.YtcnanbmbdajcaaaDoorTyJ
namespace Go.Proofs.YtcnanbmbdajcaaaDoor
open Go.RowKit M

theorem subF_above : ∀ (s : List Bd) (v : Int), subF (some v) s = true → ∀ b ∈ s, v < b.1 := by
  intro s
  induction s with
  | nil => intro v _ b hb; simp at hb
  | cons a r ih =>
    intro v h b hb
    unfold subF at h
    simp only [Bool.and_eq_true, decide_eq_true_eq] at h
    rcases List.mem_cons.1 hb with rfl | hb
    · exact h.1
    · have := ih _ h.2.2 b hb; omega
theorem subF_asc : ∀ (s : List Bd) (p : Option Int), subF p s = true → ∀ (i : Nat) (b : Bd), s[i]? = some b → ∀ x ∈ s.take i, x.1 < b.1 := by
  intro s
  induction s with
  | nil => intro p _ i b hb; simp at hb
  | cons a r ih =>
    intro p h i b hb x hx
    unfold subF at h
    simp only [Bool.and_eq_true] at h
    cases i with
    | zero => simp at hx
    | succ i =>
      rw [List.getElem?_cons_succ] at hb
      rw [List.take_succ_cons] at hx
      rcases List.mem_cons.1 hx with rfl | hx
      · exact subF_above r _ h.2.2 b (List.mem_of_getElem? hb)
      · exact ih _ h.2.2 i b hb x hx
theorem bs_asc {bs : List BS} (h : subst (bs.map mb) = true) {i : Nat} {b : BS} (hb : bs[i]? = some b) : ∀ x ∈ bs.take i, x.1 < b.1 := by
  intro x hx
  refine subF_asc _ _ h i (mb b) (by rw [List.getElem?_map, hb]; rfl) (mb x) ?_
  rw [← List.map_take]
  exact List.mem_map_of_mem hx
/-- the binding of a variable among the first ones -/
def hitB (bs : List BS) (num : Int) (i : Nat) : Option BS := (bs.take i).find? fun b => decide (b.1 = num)
theorem hitB_yes {bs : List BS} (h : subst (bs.map mb) = true) {i : Nat} {b : BS} (hb : bs[i]? = some b) : hitB bs b.1 i = none ∧ hitB bs b.1 (i + 1) = some b := by
  have h1 : hitB bs b.1 i = none := by
    unfold hitB
    rw [List.find?_eq_none]
    intro x hx
    have := bs_asc h hb x hx
    simp only [decide_eq_true_eq]
    omega
  refine ⟨h1, ?_⟩
  unfold hitB at h1 ⊢
  rw [List.take_add_one, hb, List.find?_append, h1]
  simp
theorem hitB_no {bs : List BS} {i : Nat} {b : BS} (hb : bs[i]? = some b) {num : Int} (hn : b.1 ≠ num) : hitB bs num (i + 1) = hitB bs num i := by
  unfold hitB
  rw [List.take_add_one, hb, List.find?_append]
  simp [hn]
theorem hitB_all {bs : List BS} {num : Int} {i : Nat} (h : bs.length ≤ i) : hitB bs num i = bs.find? fun b => decide (b.1 = num) := by
  unfold hitB; rw [List.take_of_length_le h]
abbrev ofHit (q : Option BS) : List TN := (q.map (·.2.2.2)).getD []
theorem app_none (l : List TN) : l ++ ofHit none = l := List.append_nil l
theorem apN_hit {bs : List BS} {k num kids : Int} (hk : k = 1) : apN (bs.map mb) (k, num, kids) = match bs.find? (fun b => decide (b.1 = num)) with
    | some b => b.2.2.2
    | none => [(k, num, kids)] := by
  unfold apN
  rw [if_pos hk, lk_map]
  cases bs.find? fun b => decide (b.1 = num) <;> rfl

set_option maxRecDepth 100000 in
set_option maxHeartbeats 12800000 in
theorem rreplace_any (w : World) (A : Option Addr) (n c : Nat) (bs : List BS) (hn : n = bs.length) (hl : n ≤ maxLen) (hA : InB w A bs) (hs : subst (bs.map mb) = true) (T : Option Addr) (m cm : Nat) (ts : List TN) (hm : m = ts.length) (hm5 : m ≤ 512) (hT : InC w T (ts.flatMap ndCells)) :
    Calls Tryd.prog 40 #[.slice A n c, .slice T m cm] w (RowPost (apL (bs.map mb) ts) w) := by
  have HA := hide hA
  have HT := hide hT
  have HM := Lib.hid hm
  have HN := Lib.hid hn
  have HS := Lib.hid hs
  unfold maxLen at hl
  clear hA hT hm hn hs
  go_enter Tryd.func40, Tryd.ntmps40
  go_wp2_with fail
  go_loopw [5, 6] (fun v i wr => ∃ j : Nat, i = .int .i64 j ∧ j ≤ m ∧ Hid (wr.ownsRow w.heap.size 33 3 v (apL (bs.map mb) (ts.take j)).length ((apL (bs.map mb) (ts.take j)).flatMap ndCells)) ∧ Hid (Below w.heap.size w wr)) (fun _ i _ => m - (intOf i).toNat)
  case atStart => exact ⟨0, rfl, by omega, World.ownsRow_nil _ _ _ _, Below.refl _ _⟩
  case round =>
    obtain ⟨j, rfl, hj, hO, hB⟩ := hrel
    obtain ⟨A3, c3, rfl⟩ := owns_form hO.out
    have hlen := apL_len HS.out (ts.take j)
    rw [List.length_take] at hlen
    have hlen2 : (apL (bs.map mb) (ts.take j)).length ≤ 262144 := by omega
    clear hlen
    by_cases hlt : j < m
    · have hjl : j < ts.length := by rw [← HM.out]; exact hlt
      obtain ⟨t, ht⟩ : ∃ t, ts[j]? = some t := ⟨ts[j], List.getElem?_eq_getElem hjl⟩
      have HT1 := hide ((unhide HT).below hB.out)
      obtain ⟨b, off, rfl, hb, hcell⟩ := (unhide HT1).elem nd_len ht (by decide)
      have hstep := Lib.hid (apL_step (s := bs.map mb) ht)
      have HTJ := Lib.hid ht
      clear hcell ht hjl
      obtain ⟨k, num, kids⟩ := t
      obtain ⟨i0, hi0, hiz0, hiz1, hiz2⟩ := info_parts node_info
      go_wp2_with fail
      go_loopw [5, 7, 8] (fun v f i wq => ∃ (e : Nat) (q : Option BS) (L : Nat), i = .int .i64 e ∧ e ≤ n ∧ (k ≠ 1 → e = 0) ∧ Hid (hitB bs num e = q) ∧ f = .bool q.isSome ∧ L ≤ 262656 ∧ Hid (L = (apL (bs.map mb) (ts.take j) ++ ofHit q).length) ∧ Hid (wq.ownsRow w.heap.size 33 3 v L ((apL (bs.map mb) (ts.take j) ++ ofHit q).flatMap ndCells)) ∧ Hid (Below w.heap.size w wq)) (fun _ _ i _ => n - (intOf i).toNat)
      case atStart => exact ⟨0, none, (apL (bs.map mb) (ts.take j)).length, rfl, by omega, fun _ => rfl, by show hitB bs num 0 = none; simp [hitB], rfl, by omega, by show _ = List.length _; rw [app_none], by rw [app_none]; exact hO.out, hB.out⟩
      case round =>
        obtain ⟨e, q, L, rfl, he, hk0, hq, rfl, hL, hLe, hOq, hBq⟩ := hrel
        obtain ⟨Aq, cq, rfl⟩ := owns_form hOq.out
        obtain ⟨b', off', hTe, hb', hcell⟩ := ((unhide HT).below hBq.out).elem nd_len HTJ.out (by decide)
        injection hTe with hTe
        injection hTe with hTe1 hTe2
        subst hTe1 hTe2
        have x0 := hcell 0 _ rfl
        have x1 := hcell 1 _ rfl
        have x2 := hcell 2 _ rfl
        simp only [Nat.add_zero] at x0 x1 x2
        clear hcell
        by_cases hk1 : k = 1
        · subst hk1
          by_cases hle : e < n
          · have hel : e < bs.length := by rw [← HN.out]; exact hle
            obtain ⟨bb, hbb⟩ : ∃ bb, bs[e]? = some bb := ⟨bs[e], List.getElem?_eq_getElem hel⟩
            have HAq := hide ((unhide HA).below hBq.out)
            obtain ⟨ka, offa, rfl, hka, y0, y1⟩ := (unhide HAq).at_ hbb
            have hmem := List.mem_of_getElem? hbb
            have hbI := ((unhide HAq).2 _ hmem).1
            have hb5 : bb.2.2.2.length ≤ 512 := valT_len (subF_all _ _ HS.out (mb bb) (List.mem_map_of_mem hmem))
            have HBB := Lib.hid hbb
            clear hbb hel hmem
            obtain ⟨bv, ba, bc, bn⟩ := bb
            simp only at y0 y1 hb5 hbI
            have HBI := hide hbI
            have hbl2 := Lib.hid (flat_len nd_len bn)
            have hbz := hBq.out.size
            clear hbI
            by_cases hv : bv = num
            · subst hv
              obtain ⟨hy1, hy2⟩ := hitB_yes HS.out HBB.out
              obtain rfl : q = none := by rw [← hq.out, hy1]
              have HY2 := Lib.hid hy2
              have hL2 : Hid (L = (apL (bs.map mb) (ts.take j)).length) := by have := hLe.out; rw [app_none] at this; exact this
              have hOq2 : Hid (wr.ownsRow w.heap.size 33 3 (.slice Aq L cq) L ((apL (bs.map mb) (ts.take j)).flatMap ndCells)) := by have := hOq.out; rw [app_none] at this; exact this
              have hL4 : L ≤ 262144 := by have := hL2.out; omega
              clear hy1 hy2 hq hLe hOq
              have g1 : (bv == bv) = true := beq_self_eq_true _
              go_wp2_with fail
              go_quiet (fail)
              go_wp2_with (at_builtin; refine wpList_app _ rfl _ _ 22 rfl w.heap.size 33 i0 _ 3 24 Tryd.underlying22 hi0 hiz0 hiz1 hiz2 rfl (by decide) _ _ _ rfl hOq2.out ba bn.length bc (bn.flatMap ndCells) rfl hbl2.out (unhide HBI) (nd_one bn) (by unfold maxLen; omega) (by omega) hbz ?_; intro v5 w5 hown5 hgrow5 _)
              have HB5 := hide (below_app (below_drewN hBq.out _) hOq2.out hgrow5)
              have HO5 : Hid (w5.ownsRow w.heap.size 33 3 v5 (L + bn.length) ((apL (bs.map mb) (ts.take j) ++ ofHit (some (bv, ba, bc, bn))).flatMap ndCells)) := by
                show World.ownsRow _ _ _ _ _ _ _
                rw [List.flatMap_append]
                exact hown5
              clear hown5 hgrow5
              go_roundw
              case rel => exact ⟨e + 1, some (bv, ba, bc, bn), L + bn.length, by go_num, by omega, fun h => absurd rfl h, HY2.out, rfl, by omega, by rw [List.length_append, hL2.out]; rfl, HO5, unhide HB5⟩
              case measure => simp [intOf]; omega
            · have hno := Lib.hid (hitB_no HBB.out (num := num) hv)
              have g1 : (bv == num) = false := beq_eq_false_iff_ne.2 hv
              clear hv
              go_wp2_with fail
              go_quiet (fail)
              go_wp2_with fail
              go_roundw
              case rel => exact ⟨e + 1, q, L, by go_num, by omega, fun h => absurd rfl h, by rw [hno.out]; exact hq.out, rfl, hL, hLe.out, hOq.out, below_drewN hBq.out _⟩
              case measure => simp [intOf]; omega
          · have hex : (q = none ∧ apN (bs.map mb) (1, num, kids) = [(1, num, kids)]) ∨ (∃ bb, q = some bb ∧ apN (bs.map mb) (1, num, kids) = bb.2.2.2) := by
              rw [apN_hit rfl, ← hitB_all (bs := bs) (num := num) (i := e) (by rw [← HN.out]; omega), hq.out]
              cases q with
              | none => exact .inl ⟨rfl, rfl⟩
              | some bb => exact .inr ⟨bb, rfl, rfl⟩
            rcases hex with ⟨rfl, hap⟩ | ⟨bb, rfl, hap⟩
            · have HST := Lib.hid (hstep.out.trans (by rw [hap]))
              have hOq2 : Hid (wr.ownsRow w.heap.size 33 3 (.slice Aq L cq) L ((apL (bs.map mb) (ts.take j)).flatMap ndCells)) := by have := hOq.out; rw [app_none] at this; exact this
              have hL2 : Hid (L = (apL (bs.map mb) (ts.take j)).length) := by have := hLe.out; rw [app_none] at this; exact this
              have hbz := hBq.out.size
              clear hap hq hLe hOq
              go_wp2_with (at_builtin; refine wpList_app _ rfl _ _ 22 rfl w.heap.size 33 i0 _ 3 24 Tryd.underlying22 hi0 hiz0 hiz1 hiz2 rfl (by decide) _ _ _ rfl (hOq2.out.alloc _) _ 1 1 [.int .i64 1, .int .i64 num, .int .i64 kids] rfl rfl (new_in _ _ #[.int .i64 1, .int .i64 num, .int .i64 kids]) (nd_one [(1, num, kids)]) (by unfold maxLen; omega) (by omega) (by simp; omega) ?_; intro v5 w5 hown5 hgrow5 _)
              have HB5 := hide (below_app (hBq.out.alloc hbz _) (hOq2.out.alloc _) hgrow5)
              have HO5 : Hid (w5.ownsRow w.heap.size 33 3 v5 (apL (bs.map mb) (ts.take (j + 1))).length ((apL (bs.map mb) (ts.take (j + 1))).flatMap ndCells)) := by
                show World.ownsRow _ _ _ _ _ _ _
                rw [HST.out, List.length_append, List.flatMap_append, ← hL2.out]
                exact hown5
              clear hown5 hgrow5
              go_roundw
              case rel => exact ⟨j + 1, by go_num, by omega, HO5, unhide HB5⟩
              case measure => simp [intOf]; omega
            · have HST := Lib.hid (hstep.out.trans (by rw [hap]))
              have HO5 : Hid (wr.ownsRow w.heap.size 33 3 (.slice Aq L cq) (apL (bs.map mb) (ts.take (j + 1))).length ((apL (bs.map mb) (ts.take (j + 1))).flatMap ndCells)) := by
                show World.ownsRow _ _ _ _ _ _ _
                have h := hOq.out
                rw [hLe.out] at h
                rw [HST.out, hLe.out]
                exact h
              clear hap hq hLe hOq
              go_wp2_with fail
              go_roundw
              case rel => exact ⟨j + 1, by go_num, by omega, HO5, hBq.out⟩
              case measure => simp [intOf]; omega
        · have g1 : (k == 1) = false := beq_eq_false_iff_ne.2 hk1
          have hex : (q = none ∧ apN (bs.map mb) (k, num, kids) = [(k, num, kids)]) ∨ (∃ bb, q = some bb ∧ apN (bs.map mb) (k, num, kids) = bb.2.2.2) := by
            have h0 := hk0 hk1
            subst h0
            have h1 : q = none := by rw [← hq.out]; simp [hitB]
            refine .inl ⟨h1, ?_⟩
            unfold apN
            rw [if_neg hk1]
          rcases hex with ⟨rfl, hap⟩ | ⟨bb, rfl, hap⟩
          · have HST := Lib.hid (hstep.out.trans (by rw [hap]))
            have hOq2 : Hid (wr.ownsRow w.heap.size 33 3 (.slice Aq L cq) L ((apL (bs.map mb) (ts.take j)).flatMap ndCells)) := by have := hOq.out; rw [app_none] at this; exact this
            have hL2 : Hid (L = (apL (bs.map mb) (ts.take j)).length) := by have := hLe.out; rw [app_none] at this; exact this
            have hbz := hBq.out.size
            clear hap hq hLe hOq
            go_wp2_with (at_builtin; refine wpList_app _ rfl _ _ 22 rfl w.heap.size 33 i0 _ 3 24 Tryd.underlying22 hi0 hiz0 hiz1 hiz2 rfl (by decide) _ _ _ rfl (hOq2.out.alloc _) _ 1 1 [.int .i64 k, .int .i64 num, .int .i64 kids] rfl rfl (new_in _ _ #[.int .i64 k, .int .i64 num, .int .i64 kids]) (nd_one [(k, num, kids)]) (by unfold maxLen; omega) (by omega) (by simp; omega) ?_; intro v5 w5 hown5 hgrow5 _)
            have HB5 := hide (below_app (hBq.out.alloc hbz _) (hOq2.out.alloc _) hgrow5)
            have HO5 : Hid (w5.ownsRow w.heap.size 33 3 v5 (apL (bs.map mb) (ts.take (j + 1))).length ((apL (bs.map mb) (ts.take (j + 1))).flatMap ndCells)) := by
              show World.ownsRow _ _ _ _ _ _ _
              rw [HST.out, List.length_append, List.flatMap_append, ← hL2.out]
              exact hown5
            clear hown5 hgrow5
            go_roundw
            case rel => exact ⟨j + 1, by go_num, by omega, HO5, unhide HB5⟩
            case measure => simp [intOf]; omega
          · have HST := Lib.hid (hstep.out.trans (by rw [hap]))
            have HO5 : Hid (wr.ownsRow w.heap.size 33 3 (.slice Aq L cq) (apL (bs.map mb) (ts.take (j + 1))).length ((apL (bs.map mb) (ts.take (j + 1))).flatMap ndCells)) := by
              show World.ownsRow _ _ _ _ _ _ _
              have h := hOq.out
              rw [hLe.out] at h
              rw [HST.out, hLe.out]
              exact h
            clear hap hq hLe hOq
            go_wp2_with fail
            go_roundw
            case rel => exact ⟨j + 1, by go_num, by omega, HO5, hBq.out⟩
            case measure => simp [intOf]; omega
    · have htk : ts.take j = ts := List.take_of_length_le (by rw [← HM.out]; omega)
      rw [htk] at hO hlen2 ⊢
      have HOr := hide (unhide hO)
      clear htk hO hlen2
      go_wp2_with fail
      go_ret
      exact ⟨_, rfl, unhide HOr, hB.out⟩

set_option maxRecDepth 100000 in
set_option maxHeartbeats 6400000 in
theorem rapply_any (w : World) (A : Option Addr) (n c : Nat) (bs : List BS) (hn : n = bs.length) (hl : n ≤ maxLen) (hA : InB w A bs) (T : Option Addr) (m cm : Nat) (ts : List TN) (hm : m = ts.length) (hml : m ≤ maxLen) (hT : InC w T (ts.flatMap ndCells)) :
    Calls Tryd.prog 23 #[.slice A n c, .slice T m cm] w (RowPost (applyM (bs.map mb) ts) w) := by
  have HA := hide hA
  have HT := hide hT
  have HM := Lib.hid hm
  cases hv : valT ts
  · have HV : Hid (applyM (bs.map mb) ts = []) := by show applyM _ _ = _; unfold applyM; rw [hv]; rfl
    have CV := hide (rvalid_b ts _ hv w T cm (by rw [← hm]; exact hml) hT)
    rw [← hm] at CV
    clear hA hT hn hm hv
    generalize applyM (bs.map mb) ts = V at *
    go_enter Tryd.func23, Tryd.ntmps23
    go_wp2_with fail
    refine (unhide CV).mono ?_
    rintro e w1 ⟨rfl, hb1⟩
    go_wp2_with fail
    go_ret
    exact ⟨_, rfl, by rw [HV.out]; exact World.ownsRow_nil _ _ _ _, hb1⟩
  · have CV := hide (rvalid_b ts _ hv w T cm (by rw [← hm]; exact hml) hT)
    rw [← hm] at CV
    have hm5 : m ≤ 512 := by rw [hm]; exact valT_len hv
    have CS := hide (fun W h => rsub_any W A n c bs hn hl h)
    cases hs : subst (bs.map mb)
    · have HV : Hid (applyM (bs.map mb) ts = []) := by show applyM _ _ = _; unfold applyM; rw [hs]; simp
      rw [hs] at CS
      clear hA hT hn hm hv hs
      generalize applyM (bs.map mb) ts = V at *
      go_enter Tryd.func23, Tryd.ntmps23
      go_wp2_with fail
      refine (unhide CV).mono ?_
      rintro e w1 ⟨rfl, hb1⟩
      have HB1 := hide hb1
      have HA1 := hide ((unhide HA).below hb1)
      clear hb1
      go_wp2_with fail
      refine ((unhide CS) w1 (unhide HA1)).mono ?_
      rintro e w2 ⟨rfl, hb2⟩
      have HB2 := hide ((unhide HB1).trans (hb2.mono (unhide HB1).size))
      clear hb2
      go_wp2_with fail
      go_ret
      exact ⟨_, rfl, by rw [HV.out]; exact World.ownsRow_nil _ _ _ _, unhide HB2⟩
    · have HV : Hid (applyM (bs.map mb) ts = if valT (apL (bs.map mb) ts) = true then apL (bs.map mb) ts else []) := by show applyM _ _ = _; unfold applyM; rw [hv, hs, Bool.true_and, Bool.true_and]
      have CR := hide (fun W ha ht => rreplace_any W A n c bs hn hl ha hs T m cm ts hm hm5 ht)
      have hal : (apL (bs.map mb) ts).length ≤ 262144 := by have := apL_len hs ts; omega
      rw [hs] at CS
      clear hA hT hn hm hv hs
      go_enter Tryd.func23, Tryd.ntmps23
      go_wp2_with fail
      refine (unhide CV).mono ?_
      rintro e w1 ⟨rfl, hb1⟩
      have HB1 := hide hb1
      have HA1 := hide ((unhide HA).below hb1)
      have HT1 := hide ((unhide HT).below hb1)
      clear hb1
      go_wp2_with fail
      refine ((unhide CS) w1 (unhide HA1)).mono ?_
      rintro e w2 ⟨rfl, hb2⟩
      have HB2 := hide ((unhide HB1).trans (hb2.mono (unhide HB1).size))
      have HA2 := hide ((unhide HA1).below hb2)
      have HT2 := hide ((unhide HT1).below hb2)
      clear hb2
      go_wp2_with fail
      refine ((unhide CR) w2 (unhide HA2) (unhide HT2)).mono ?_
      rintro e w3 ⟨v3, rfl, ho3, hb3⟩
      have HB3 := hide ((unhide HB2).trans (hb3.mono (unhide HB2).size))
      have HO3 := hide (owns_base ho3 (unhide HB2).size)
      obtain ⟨A3, c3, rfl⟩ := owns_form ho3
      have HI3 := hide (InC.own ho3)
      clear hb3 ho3
      cases hva : valT (apL (bs.map mb) ts)
      all_goals
        have CV2 := hide (rvalid_b _ _ hva w3 A3 c3 (by unfold maxLen; omega) (unhide HI3))
        have HV2 := HV.out
        simp only [hva, if_true, if_false, Bool.false_eq_true] at HV2
        have HV3 := Lib.hid HV2
        clear hva HV HV2
        go_wp2_with fail
        refine (unhide CV2).mono ?_
        rintro e w4 ⟨rfl, hb4⟩
        have HB4 := hide ((unhide HB3).trans (hb4.mono (unhide HB3).size))
        have HO4 := hide (owns_below (unhide HO3) hb4)
        clear hb4
        go_wp2_with fail
        go_ret
      · exact ⟨_, rfl, by rw [HV3.out]; exact World.ownsRow_nil _ _ _ _, unhide HB4⟩
      · exact ⟨_, rfl, by rw [HV3.out]; exact unhide HO4, unhide HB4⟩

end Go.Proofs.YtcnanbmbdajcaaaDoor
