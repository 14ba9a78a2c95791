/- Substitutions: what Apply returns. Conditions: lists have a length. -/
import Derived.Test.YtcnanbmbdajcaaaDoorTyH
namespace Go.Proofs.YtcnanbmbdajcaaaDoor
open Go.RowKit M

theorem apL_append (s : List Bd) (a b : List TN) : apL s (a ++ b) = apL s a ++ apL s b := by simp [apL]
theorem apL_step {s : List Bd} {ts : List TN} {i : Nat} {t : TN} (h : ts[i]? = some t) : apL s (ts.take (i + 1)) = apL s (ts.take i) ++ apN s t := by
  rw [List.take_add_one, h, apL_append]
  simp [apL]
theorem find_map {bs : List BS} {β : Type} (f : BS → Int × β) (hf : ∀ b, (f b).1 = b.1) (k : Int) : (bs.map f).find? (fun p => decide (p.1 = k)) = (bs.find? fun b => decide (b.1 = k)).map f := by
  induction bs with
  | nil => rfl
  | cons a r ih =>
    rw [List.map_cons]
    by_cases h : a.1 = k
    · rw [List.find?_cons_of_pos (by simp [hf, h]), List.find?_cons_of_pos (by simp [h])]; rfl
    · rw [List.find?_cons_of_neg (by simp [hf, h]), List.find?_cons_of_neg (by simp [h])]; exact ih
theorem lk_map (bs : List BS) (k : Int) : lk (bs.map mb) k = (bs.find? fun b => decide (b.1 = k)).map (·.2.2.2) := by
  unfold lk
  rw [find_map mb (fun _ => rfl)]
  cases bs.find? fun b => decide (b.1 = k) <;> rfl
theorem subF_all : ∀ (s : List Bd) (p : Option Int), subF p s = true → ∀ b ∈ s, valT b.2 = true := by
  intro s
  induction s with
  | nil => intro p _ b hb; simp at hb
  | cons a r ih =>
    intro p h b hb
    unfold subF at h
    simp only [Bool.and_eq_true] at h
    rcases List.mem_cons.1 hb with rfl | hb
    · exact h.2.1
    · exact ih _ h.2.2 b hb
theorem valT_len {ts : List TN} (h : valT ts = true) : ts.length ≤ 512 := by
  unfold valT at h; simp at h; exact h.1
theorem apN_len {s : List Bd} (hs : subst s = true) (t : TN) : (apN s t).length ≤ 512 := by
  unfold apN
  split
  · unfold lk
    cases h : s.find? fun b => decide (b.1 = t.2.1) with
    | none => simp
    | some b => exact valT_len (subF_all s _ hs b (List.mem_of_find?_eq_some h))
  · simp
theorem apL_len {s : List Bd} (hs : subst s = true) : ∀ ts : List TN, (apL s ts).length ≤ ts.length * 512 := by
  intro ts
  induction ts with
  | nil => simp [apL]
  | cons a r ih =>
    have h := apN_len hs a
    have e : apL s (a :: r) = apN s a ++ apL s r := by simp [apL]
    rw [e, List.length_append, List.length_cons]
    omega
theorem own_imap_ne {w : World} {b : Nat} {e : TypeId} {z n g : Nat} {v : Value} {xs : List Value} {es : List (Int × Value)} (h : w.ownsRow b e z v n xs) (hm : IMap w g es) : (some g : Option Nat) ≠ v.ownBlock := by
  intro q
  obtain ⟨ys, c, hm, _⟩ := hm
  rcases h.2 with ⟨rfl, _⟩ | ⟨g', cap, cur, rfl, _, hh, _⟩
  · simp [Value.ownBlock] at q
  · have : g = g' := by simpa [Value.ownBlock] using q
    subst this
    rw [hm] at hh
    cases hh
theorem nodes_zero : (Tryd.prog.info? 22).map (·.zero) = some (some (.slice none 0 0)) := by kernel_rfl
theorem zero_nodes (w : World) : (zeroValue 22).run Tryd.prog w = .ok (.slice none 0 0) w := by
  have h := nodes_zero
  cases hi : Tryd.prog.info? 22 with
  | none => rw [hi] at h; cases h
  | some i => rw [hi] at h; simp only [Option.map_some, Option.some.injEq] at h; exact run_zero_of hi h w

set_option maxRecDepth 100000 in
set_option maxHeartbeats 6400000 in
theorem apply_any (w : World) (A : Option Addr) (n c : Nat) (bs : List BS) (hn : n = bs.length) (hl : n ≤ maxLen) (hA : InB w A bs) (T : Option Addr) (m cm : Nat) (ts : List TN) (hm : m = ts.length) (hml : m ≤ maxLen) (hmc : m ≤ cm) (hT : InC w T (ts.flatMap ndCells)) :
    Calls Tryd.prog 24 #[.slice A n c, .slice T m cm] w (RowPost (applyM (bs.map mb) ts) w) := by
  have CS := hide (subOf_any w A n c bs hn hl hA)
  have HA := hide hA
  have HT := hide hT
  have HM := Lib.hid hm
  cases hs : subst (bs.map mb)
  · have HV : Hid (applyM (bs.map mb) ts = []) := by show applyM _ _ = _; unfold applyM; rw [hs]; simp
    rw [hs] at CS
    clear hs hA hT hn hm
    generalize applyM (bs.map mb) ts = V at *
    go_enter Tryd.func24, Tryd.ntmps24
    go_wp2_with fail
    refine (unhide CS).mono ?_
    rintro e w1 ⟨hb1, rfl⟩
    go_wp2_with fail
    go_ret
    exact ⟨_, rfl, by rw [HV.out]; exact World.ownsRow_nil _ _ _ _, hb1⟩
  · rw [hs] at CS
    cases hv : valT ts
    · have HV : Hid (applyM (bs.map mb) ts = []) := by show applyM _ _ = _; unfold applyM; rw [hv]; rfl
      have CV := hide (fun W h => valid_b ts _ hv W T cm (by rw [← hm]; exact hml) (by rw [← hm]; exact hmc) h)
      rw [← hm] at CV
      clear hs hA hT hn hm hv
      generalize applyM (bs.map mb) ts = V at *
      go_enter Tryd.func24, Tryd.ntmps24
      go_wp2_with fail
      refine (unhide CS).mono ?_
      rintro e w1 ⟨hb1, g, rfl, hg, hM⟩
      have HB1 := hide hb1
      have HT1 := hide ((unhide HT).below hb1)
      clear hb1 hM
      go_wp2_with fail
      refine ((unhide CV) w1 (unhide HT1)).mono ?_
      rintro e w2 ⟨rfl, hb2⟩
      have HB2 := hide ((unhide HB1).trans (hb2.mono (unhide HB1).size))
      clear hb2
      go_wp2_with fail
      go_ret
      exact ⟨_, rfl, by rw [HV.out]; exact World.ownsRow_nil _ _ _ _, unhide HB2⟩
    · have HV : Hid (applyM (bs.map mb) ts = if valT (apL (bs.map mb) ts) = true then apL (bs.map mb) ts else []) := by show applyM _ _ = _; unfold applyM; rw [hv, hs, Bool.true_and, Bool.true_and]
      have CV := hide (fun W h => valid_b ts _ hv W T cm (by rw [← hm]; exact hml) (by rw [← hm]; exact hmc) h)
      rw [← hm] at CV
      have hm5 : m ≤ 512 := by rw [hm]; exact valT_len hv
      have HS := Lib.hid hs
      clear hs hA hT hn hm hv
      go_enter Tryd.func24, Tryd.ntmps24
      go_wp2_with fail
      refine (unhide CS).mono ?_
      rintro e w1 ⟨hb1, g, rfl, hg, hM⟩
      have HB1 := hide hb1
      have HT1 := hide ((unhide HT).below hb1)
      have HM1 := hide hM
      have hgl := hM.lt
      clear hb1 hM
      go_wp2_with fail
      refine ((unhide CV) w1 (unhide HT1)).mono ?_
      rintro e w2 ⟨rfl, hb2⟩
      have HB2 := hide ((unhide HB1).trans (hb2.mono (unhide HB1).size))
      have HM2 := hide ((unhide HM1).below hb2 hgl)
      have hgl2 : g < w2.heap.size := Nat.lt_of_lt_of_le hgl hb2.size
      clear hb2
      go_wp2_with fail
      clear CS CV
      go_loopw [7, 26] (fun v i wr => ∃ j : Nat, i = .int .i64 j ∧ j ≤ m ∧ Hid (wr.ownsRow w.heap.size 33 3 v (apL (bs.map mb) (ts.take j)).length ((apL (bs.map mb) (ts.take j)).flatMap ndCells)) ∧ Hid (IMap wr g (bs.map fun b => (b.1, tsV b.2))) ∧ Hid (Below w.heap.size w wr) ∧ g < wr.heap.size) (fun _ i _ => m - (intOf i).toNat)
      case atStart => exact ⟨0, rfl, by omega, World.ownsRow_nil _ _ _ _, unhide HM2, unhide HB2, hgl2⟩
      case round =>
        obtain ⟨j, rfl, hj, hO, hMr, hB, hglr⟩ := hrel
        obtain ⟨A3, c3, rfl⟩ := owns_form hO.out
        have HNE := hide (own_imap_ne hO.out hMr.out)
        have hlen := apL_len HS.out (ts.take j)
        rw [List.length_take] at hlen
        have hlen2 : (apL (bs.map mb) (ts.take j)).length ≤ 262144 := by omega
        clear hlen
        by_cases hlt : j < m
        · have hjl : j < ts.length := by rw [← HM.out]; exact hlt
          obtain ⟨t, ht⟩ : ∃ t, ts[j]? = some t := ⟨ts[j], List.getElem?_eq_getElem hjl⟩
          obtain ⟨b, off, rfl, hb, hcell⟩ := ((unhide HT).below hB.out).elem nd_len ht (by decide)
          have x0 := hcell 0 _ rfl
          have x1 := hcell 1 _ rfl
          have x2 := hcell 2 _ rfl
          have hstep := Lib.hid (apL_step (s := bs.map mb) ht)
          obtain ⟨k, num, kids⟩ := t
          simp only [Nat.add_zero] at x0 x1 x2
          obtain ⟨i0, hi0, hiz0, hiz1, hiz2⟩ := info_parts node_info
          have hbz := hB.out.size
          clear hcell ht hjl
          have hf := find_map (bs := bs) (fun b => (b.1, tsV b.2)) (fun _ => rfl) num
          have hlk := lk_map bs num
          have hcase : (∃ q, k = 1 ∧ bs.find? (fun b => decide (b.1 = num)) = some q) ∨ (apN (bs.map mb) (k, num, kids) = [(k, num, kids)] ∧ (k ≠ 1 ∨ bs.find? (fun b => decide (b.1 = num)) = none)) := by
            by_cases h1 : k = 1
            · cases hq : bs.find? (fun b => decide (b.1 = num)) with
              | none => refine .inr ⟨?_, .inr rfl⟩; unfold apN; rw [if_pos h1, hlk, hq]; rfl
              | some q => exact .inl ⟨q, h1, rfl⟩
            · refine .inr ⟨?_, .inl h1⟩; unfold apN; rw [if_neg h1]
          rcases hcase with ⟨q, rfl, hq⟩ | ⟨hap, hno⟩
          · have hqm := List.mem_of_find?_eq_some hq
            obtain ⟨hqI, hql, hqc⟩ := (unhide HA).2 q hqm
            have hq5 : q.2.2.2.length ≤ 512 := valT_len (subF_all _ _ HS.out (mb q) (List.mem_map_of_mem hqm))
            have hap : apN (bs.map mb) (1, num, kids) = q.2.2.2 := by unfold apN; rw [if_pos rfl, hlk, hq]; rfl
            have hstep2 := Lib.hid (hstep.out.trans (by rw [hap]))
            obtain ⟨qv, qa, qc, qn⟩ := q
            simp only at hqI hq5 hap
            have HQI := hide ((hqI.below hB.out).alloc (.cells #[.int .i64 1, .int .i64 num, .int .i64 kids] 33))
            have hql2 := Lib.hid (flat_len nd_len qn)
            have hr := Lib.hid (show (match (bs.map fun b => (b.1, tsV b.2)).find? (fun p => decide (p.1 = num)) with
              | some p => if true then Value.tuple #[p.2, .bool true] else p.2
              | none => if true then Value.tuple #[.slice none 0 0, .bool false] else .slice none 0 0) = .tuple #[.slice qa qn.length qc, .bool true] by rw [hf, hq]; rfl)
            clear hf hlk hq hqI hap hql hqc hstep
            go_wp2_with (first
              | (at_lookup; refine wpList_look_i _ rfl _ _ 68 true rfl 3 22 Tryd.underlying68 Tryd.underlying3 (.slice none 0 0) (zero_nodes _) g _ num rfl rfl (hMr.out.alloc _) _ hr.out ?_)
              | (at_builtin; refine wpList_app _ rfl _ _ 22 rfl w.heap.size 33 i0 _ 3 24 Tryd.underlying22 hi0 hiz0 hiz1 hiz2 rfl (by decide) _ _ _ rfl (hO.out.alloc _) qa qn.length qc (qn.flatMap ndCells) rfl hql2.out (unhide HQI) (nd_one qn) (by unfold maxLen; omega) (by omega) (by simp; omega) ?_; intro v5 w5 hown5 hgrow5 _))
            have HB5 := hide (below_app (hB.out.alloc hbz (.cells #[.int .i64 1, .int .i64 num, .int .i64 kids] 33)) (hO.out.alloc _) hgrow5)
            have HM5 := hide ((hMr.out.alloc (.cells #[.int .i64 1, .int .i64 num, .int .i64 kids] 33)).kept hgrow5 (unhide HNE))
            have hg5 : g < w5.heap.size := by have := hgrow5.size; simp at this; omega
            have HO5 : Hid (w5.ownsRow w.heap.size 33 3 v5 (apL (bs.map mb) (ts.take (j + 1))).length ((apL (bs.map mb) (ts.take (j + 1))).flatMap ndCells)) := by
              show World.ownsRow _ _ _ _ _ _ _
              rw [hstep2.out, List.length_append, List.flatMap_append]
              exact hown5
            clear hown5 hgrow5
            go_roundw
            case rel => exact ⟨j + 1, by go_num, by omega, HO5, unhide HM5, unhide HB5, hg5⟩
            case measure => simp [intOf]; omega
          · have hstep2 := Lib.hid (hstep.out.trans (by rw [hap]))
            obtain ⟨R, B, hr, hRk⟩ : ∃ (R : Value) (B : Bool), (match (bs.map fun b => (b.1, tsV b.2)).find? (fun p => decide (p.1 = num)) with
              | some p => if true then Value.tuple #[p.2, .bool true] else p.2
              | none => if true then Value.tuple #[.slice none 0 0, .bool false] else .slice none 0 0) = .tuple #[R, .bool B] ∧ (B = true → k ≠ 1) := by
              rw [hf]
              cases hq : bs.find? (fun b => decide (b.1 = num)) with
              | none => exact ⟨_, false, rfl, fun q => by cases q⟩
              | some q => exact ⟨_, true, rfl, fun _ => hno.resolve_right (by rw [hq]; exact Option.some_ne_none _)⟩
            have HR := Lib.hid hr
            have hcB : (B = false) ∨ (B = true ∧ (k == 1) = false) := by
              cases B with
              | false => exact .inl rfl
              | true => exact .inr ⟨rfl, beq_eq_false_iff_ne.2 (hRk rfl)⟩
            have HNW : Hid (InC ((wr.alloc (.cells #[.int .i64 k, .int .i64 num, .int .i64 kids] 33)).alloc (.cells #[.int .i64 k, .int .i64 num, .int .i64 kids] 33)) (some ⟨wr.heap.size + 1, 0, none⟩) [.int .i64 k, .int .i64 num, .int .i64 kids]) := by
              have h := new_in (wr.alloc (.cells #[.int .i64 k, .int .i64 num, .int .i64 kids] 33)) 33 #[.int .i64 k, .int .i64 num, .int .i64 kids]
              rw [show (wr.alloc (.cells #[.int .i64 k, .int .i64 num, .int .i64 kids] 33)).heap.size = wr.heap.size + 1 by simp] at h
              exact h
            clear hf hlk hap hno hr hRk hstep
            rcases hcB with rfl | ⟨rfl, hk1⟩
            all_goals
              go_wp2_with (first
                | (at_lookup; refine wpList_look_i _ rfl _ _ 68 true rfl 3 22 Tryd.underlying68 Tryd.underlying3 (.slice none 0 0) (zero_nodes _) g _ num rfl rfl (hMr.out.alloc _) _ HR.out ?_)
                | (at_builtin; (refine wpList_app _ rfl _ _ 22 rfl w.heap.size 33 i0 _ 3 24 Tryd.underlying22 hi0 hiz0 hiz1 hiz2 rfl (by decide) _ _ _ rfl ((hO.out.alloc _).alloc _) _ 1 1 [.int .i64 k, .int .i64 num, .int .i64 kids] rfl rfl (unhide HNW) (nd_one [(k, num, kids)]) (by unfold maxLen; omega) (by omega) (by simp; omega) ?_); intro v5 w5 hown5 hgrow5 _))
              have HB5 := hide (below_app ((hB.out.alloc hbz _).alloc (by simp; omega) _) ((hO.out.alloc _).alloc _) hgrow5)
              have HM5 := hide (((hMr.out.alloc _).alloc _).kept hgrow5 (unhide HNE))
              have hg5 : g < w5.heap.size := by have := hgrow5.size; simp at this; omega
              have HO5 : Hid (w5.ownsRow w.heap.size 33 3 v5 (apL (bs.map mb) (ts.take (j + 1))).length ((apL (bs.map mb) (ts.take (j + 1))).flatMap ndCells)) := by
                show World.ownsRow _ _ _ _ _ _ _
                rw [hstep2.out, List.length_append, List.flatMap_append]
                exact hown5
              clear hown5 hgrow5
              go_roundw
              case rel => exact ⟨j + 1, by go_num, by omega, HO5, unhide HM5, unhide HB5, hg5⟩
              case measure => simp [intOf]; omega
        · have htk : ts.take j = ts := List.take_of_length_le (by rw [← HM.out]; omega)
          rw [htk] at hO hlen2 ⊢
          have HOr := hide (unhide hO)
          cases hva : valT (apL (bs.map mb) ts)
          · have HV2 := HV.out
            rw [if_neg (by simp [hva])] at HV2
            have CV2 := hide (valid_b _ _ hva wr A3 c3 (by unfold maxLen; omega) (by have := hO.out; rcases this.2 with ⟨h1, h2⟩ | ⟨gg, cap, cur, h1, _, _, h2, _⟩ <;> injection h1 with h1 h3 h4 <;> omega) (InC.own hO.out))
            have HV3 := Lib.hid HV2
            clear hva HV HV2 htk hO
            go_wp2_with fail
            refine (unhide CV2).mono ?_
            rintro e w3 ⟨rfl, hb3⟩
            have HB3 := hide (hB.out.trans (hb3.mono hB.out.size))
            clear hb3
            go_wp2_with fail
            go_ret
            exact ⟨_, rfl, by rw [HV3.out]; exact World.ownsRow_nil _ _ _ _, unhide HB3⟩
          · have HV2 := HV.out
            rw [if_pos hva] at HV2
            have CV2 := hide (valid_b _ _ hva wr A3 c3 (by unfold maxLen; omega) (by have := hO.out; rcases this.2 with ⟨h1, h2⟩ | ⟨gg, cap, cur, h1, _, _, h2, _⟩ <;> injection h1 with h1 h3 h4 <;> omega) (InC.own hO.out))
            have HV3 := Lib.hid HV2
            clear hva HV HV2 htk hO
            go_wp2_with fail
            refine (unhide CV2).mono ?_
            rintro e w3 ⟨rfl, hb3⟩
            have HB3 := hide (hB.out.trans (hb3.mono hB.out.size))
            have HO3 := hide (owns_below (unhide HOr) hb3)
            clear hb3
            go_wp2_with fail
            go_ret
            exact ⟨_, rfl, by rw [HV3.out]; exact unhide HO3, unhide HB3⟩

end Go.Proofs.YtcnanbmbdajcaaaDoor
