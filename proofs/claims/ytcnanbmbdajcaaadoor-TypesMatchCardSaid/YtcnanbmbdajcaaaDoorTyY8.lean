/- The reference's match: what it finds is what the model says. Condition: at most 512 nodes, at most 2048 bindings. -/
-- by tools/gen_rmatch.py
import Derived.Test.YtcnanbmbdajcaaaDoorTyY5
import Derived.Test.YtcnanbmbdajcaaaDoorTyY7
import Derived.Test.YtcnanbmbdajcaaaDoorTyN
import Derived.Deep.RegionHeld3
import Derived.Deep.QuietTactic
import Derived.BigQuiet
namespace Go.Proofs.YtcnanbmbdajcaaaDoor
open Go.RowKit M

theorem step_app {P : Program} {w : World} {ops : Array Oper} {o : Oper} {a : Act} {K : Act → World → Prop} {Q : Exit → Act → World → Prop} {E : Prop} (hgd : o.guard = none) (s x : Operand) (t : TypeId)
    (ho : o.op = .call { callee := .builtin .append, args := #[s, x], argTypes := #[t, t] })
    (base : Nat) (e : TypeId) (i : TypeInfo) (z : Value) (size bytes : Nat) (ht : P.underlying t = some (.slice e)) (hi : P.info? e = some i) (hz : i.zero = some z)
    (hsize : i.size = size) (hby : i.bytes = bytes) (hzs : z.cells.size = size) (hsz : 0 < size)
    (v : Value) (n : Nat) (xs : List Value) (hs : a.eval s = v) (hown : w.ownsRow base e size v n xs)
    (A : Option Addr) (m c : Nat) (news : List Value) (hx : a.eval x = .slice A m c) (hl : news.length = m * size) (hr : InC w A news) (h1 : ∀ u ∈ news, u.oneCell' = true)
    (h63 : n + m ≤ maxLen) (hbytes : (n + m) * bytes ≤ 140737488355328) (hbase : base ≤ w.heap.size)
    (h : ∀ v' w', w'.ownsRow base e size v' (n + m) (xs ++ news) → w.grownBy w' v.ownBlock → (v'.ownBlock = v.ownBlock ∨ v'.ownBlock = some w.heap.size) → K (a.put o.dst v') w') : if Region.wanted o (yielded ops a.tmps) = true then Oper.wp P o a w K Q else E := by
  have hw2 : Region.wanted o (yielded ops a.tmps) = true := by simp [Region.wanted, hgd]
  rw [if_pos hw2]
  exact wp_app w s x t ho base e i z size bytes ht hi hz hsize hby hzs hsz v n xs hs hown A m c news hx hl hr h1 h63 hbytes hbase h

set_option maxRecDepth 100000 in
set_option maxHeartbeats 3200000 in
theorem requal_any (ts us : List TN) (n1 n2 : Nat) (hn1 : n1 = ts.length) (hn2 : n2 = us.length) (hm : n1 ≤ 9223372036854775807) (A1 A2 : Option Addr) (c1 c2 : Nat) (w : World) (h1 : InC w A1 (ts.flatMap ndCells)) (h2 : InC w A2 (us.flatMap ndCells)) :
    Calls Tryd.prog 10 #[.slice A1 n1 c1, .slice A2 n2 c2] w fun e w' => e = .returned (.bool (decide (ts = us))) ∧ ∃ m, w' = w.drewN m := by
  have H1 := hide h1
  have H2 := hide h2
  have HN1 := Lib.hid hn1
  have HN2 := Lib.hid hn2
  clear h1 h2 hn1 hn2
  go_enter Tryd.func10, Tryd.ntmps10
  by_cases hnn : n1 = n2
  · subst hnn
    go_wp2_with fail
    go_loopw [5] (fun t wr => ∃ k : Nat, k ≤ n1 ∧ t = .int .i64 k ∧ Hid (ts.take k = us.take k) ∧ Hid (∃ m, wr = w.drewN m)) (fun t _ => n1 - (intOf t).toNat)
    case atStart => exact ⟨0, by omega, rfl, rfl, 0, rfl⟩
    case round =>
      obtain ⟨k, hk, rfl, hT, hW⟩ := hrel
      obtain ⟨m, rfl⟩ := hW
      by_cases hlt : k < n1
      · obtain ⟨t, ht⟩ : ∃ t, ts[k]? = some t := by
          have : k < ts.length := by rw [← HN1.out]; exact hlt
          exact ⟨ts[k], List.getElem?_eq_getElem this⟩
        obtain ⟨u, hu⟩ : ∃ t, us[k]? = some t := by
          have : k < us.length := by rw [← HN2.out]; exact hlt
          exact ⟨us[k], List.getElem?_eq_getElem this⟩
        obtain ⟨b1, o1, rfl, hb1, hc1⟩ := (unhide H1).elem nd_len ht (by decide)
        obtain ⟨b2, o2, rfl, hb2, hc2⟩ := (unhide H2).elem nd_len hu (by decide)
        have HT1 := Lib.hid ht
        have HT2 := Lib.hid hu
        obtain ⟨kd, nu, ki⟩ := t
        obtain ⟨kd', nu', ki'⟩ := u
        have x0 := hc1 0 _ rfl
        have x1 := hc1 1 _ rfl
        have x2 := hc1 2 _ rfl
        have y0 := hc2 0 _ rfl
        have y1 := hc2 1 _ rfl
        have y2 := hc2 2 _ rfl
        simp only [Nat.add_zero] at x0 y0 x1 x2 y1 y2
        clear ht hu hc1 hc2
        by_cases he : kd = kd' ∧ nu = nu' ∧ ki = ki'
        · obtain ⟨rfl, rfl, rfl⟩ := he
          have HTE := Lib.hid (take_eq hT.out HT1.out HT2.out)
          go_wp2
          go_quiet (fail)
          go_wp2
          go_roundw
          case rel => exact ⟨k + 1, by omega, by go_num, HTE.out, _, rfl⟩
          case measure => simp [intOf]; omega
        · have HNE := Lib.hid (ne_at HT1.out HT2.out (fun q => he ⟨congrArg (fun z => z.1) q, congrArg (fun z => z.2.1) q, congrArg (fun z => z.2.2) q⟩))
          have hcase : (kd == kd') = false ∨ ((kd == kd') = true ∧ (nu == nu') = false) ∨ ((kd == kd') = true ∧ (nu == nu') = true ∧ (ki == ki') = false) := by
            by_cases q1 : kd = kd'
            · by_cases q2 : nu = nu'
              · by_cases q3 : ki = ki'
                · exact absurd ⟨q1, q2, q3⟩ he
                · exact .inr (.inr ⟨by simp [q1], by simp [q2], by simp [q3]⟩)
              · exact .inr (.inl ⟨by simp [q1], by simp [q2]⟩)
            · exact .inl (by simp [q1])
          clear he
          rcases hcase with g1 | ⟨g1, g2⟩ | ⟨g1, g2, g3⟩
          all_goals
            go_wp2
            go_quiet (fail)
            go_wp2
            go_ret
            exact ⟨by rw [decide_eq_false HNE.out]; rfl, m + nq, by simp [World.drewN, Nat.add_assoc]⟩
      · have hE : ts = us := by
          have h := hT.out
          rw [List.take_of_length_le (by rw [← HN1.out]; omega), List.take_of_length_le (by rw [← HN2.out]; omega)] at h
          exact h
        have HE := Lib.hid (decide_eq_true hE)
        clear hE
        go_wp2
        go_ret
        exact ⟨by rw [HE.out]; rfl, m, rfl⟩
  · have HNE : Hid (decide (ts = us) = false) := Lib.hid (decide_eq_false (by rintro rfl; exact hnn (HN1.out.trans HN2.out.symm)))
    have g1 : (n1 == n2) = false := beq_eq_false_iff_ne.2 hnn
    have g2 : ((n1 : Int) == (n2 : Int)) = false := beq_eq_false_iff_ne.2 (by omega)
    go_wp2
    go_ret
    exact ⟨by rw [HNE.out]; rfl, 0, rfl⟩

theorem mtch_one {num : Int} {us : List TN} {e : Int → Option (List TN)} (hf : Full 1 us) : mtch [(1, num, 0)] us e = (match e num with | some y => decide (y = us) | none => true) := by
  have h := mtch_var (t := (1, num, 0)) (a := []) (e := e) rfl hf
  rw [List.take_of_length_le (Nat.le_refl _), List.drop_of_length_le (Nat.le_refl _)] at h
  rw [h]
  have : mtch [] [] (setE e num us) = true := by unfold mtch; rfl
  rw [this, Bool.and_true]; rfl
theorem finE_one {num : Int} {us : List TN} {e : Int → Option (List TN)} (hf : Full 1 us) : finE [(1, num, 0)] us e = setE e num us := by
  have h := finE_var (t := (1, num, 0)) (a := []) (e := e) rfl hf
  rw [List.take_of_length_le (Nat.le_refl _), List.drop_of_length_le (Nat.le_refl _)] at h
  rw [h]; unfold finE; rfl
theorem rep_mem {s : List Bd} {e : Int → Option (List TN)} (h : Rep s e) {b : Bd} (hb : b ∈ s) : e b.1 = some b.2 := by
  have : ∀ l : List Bd, l.Pairwise (fun a b => a.1 < b.1) → b ∈ l → lk l b.1 = some b.2 := by
    intro l
    induction l with
    | nil => intro _ h; simp at h
    | cons c l ih =>
      intro ha h
      obtain ⟨k1, k2⟩ := List.pairwise_cons.1 ha
      rw [lk_cons]
      rcases List.mem_cons.1 h with rfl | h
      · rw [if_pos rfl]
      · rw [if_neg (by have := k1 b h; omega)]; exact ih k2 h
  rw [← h.says]; exact this s h.asc hb
theorem rep_none {bs : List BS} {e : Int → Option (List TN)} (h : Rep (bs.map mb) e) {num : Int} (hn : ∀ b ∈ bs, b.1 ≠ num) : e num = none := by
  rw [← h.says]
  exact lk_none fun b hb q => by
    obtain ⟨x, hx, rfl⟩ := List.mem_map.1 hb
    exact hn x hx q
theorem take_step {bs : List BS} {i : Nat} {b : BS} {p : BS → Prop} (h : ∀ x ∈ bs.take i, p x) (hb : bs[i]? = some b) (hp : p b) : ∀ x ∈ bs.take (i + 1), p x := fun x hx => by
  rw [List.take_add_one, hb] at hx
  rcases List.mem_append.1 hx with hx | hx
  · exact h x hx
  · simp at hx; subst hx; exact hp
/-- what match leaves: whether it fits, and the bindings -/
def RmPost (ts us : List TN) (l : Nat) (e0 : Int → Option (List TN)) (w : World) (e : Ending) (w' : World) : Prop :=
  ∃ (A : Option Addr) (c : Nat) (bs : List BS), e = .returned (.tuple #[.slice A bs.length c, .bool (mtch ts us e0)]) ∧ Below w.heap.size w w' ∧ (mtch ts us e0 = true → InB w' A bs ∧ Rep (bs.map mb) (finE ts us e0) ∧ bs.length ≤ l + ts.length ∧ bs.length ≤ c)
theorem RmPost.no {ts us : List TN} {l : Nat} {e0 : Int → Option (List TN)} {w w' : World} (h : mtch ts us e0 = false) (hb : Below w.heap.size w w') : RmPost ts us l e0 w (.returned (.tuple #[.slice none 0 0, .bool false])) w' :=
  ⟨none, 0, [], by rw [h]; rfl, hb, fun q => by rw [h] at q; cases q⟩
def RmCon (N : Nat) : Prop := ∀ (w : World) (S : Option Addr) (cs : Nat) (bs : List BS) (e0 : Int → Option (List TN)) (A : Option Addr) (ca : Nat) (ts : List TN) (B : Option Addr) (cb : Nat) (us : List TN),
  ts.length ≤ N → ts.length ≤ 512 → us.length ≤ 512 → bs.length + ts.length ≤ 2048 → bs.length ≤ cs → ts.length ≤ ca → us.length ≤ cb → Full 1 ts → Full 1 us → (∀ t ∈ ts, vN t = true) → (∀ t ∈ us, vN t = true) → Rep (bs.map mb) e0 → InB w S bs → InC w A (ts.flatMap ndCells) → InC w B (us.flatMap ndCells) →
  Calls Tryd.prog 38 #[.slice S bs.length cs, .slice A ts.length ca, .slice B us.length cb] w (RmPost ts us bs.length e0 w)
theorem bd_flat_len (bs : List BS) : (bs.flatMap bdCells).length = bs.length * 2 := flat_len (f := bdCells) (z := 2) bd_len bs
theorem bs_cut {w : World} {S : Option Addr} {bs : List BS} {cs k : Nat} (h : InB w S bs) (hc : bs.length ≤ cs) : InC w (if cs = k then S else S.map (·.add (k * 2))) ((bs.drop k).flatMap bdCells) := by
  rw [flat_drop bd_len]
  refine InC.cut h.1 fun e => ?_
  rw [← flat_drop bd_len, List.drop_eq_nil_of_le (by omega)]; rfl
theorem bs_take {w : World} {S : Option Addr} {bs : List BS} (h : InB w S bs) (k : Nat) : InC w S ((bs.take k).flatMap bdCells) := by
  rw [flat_take bd_len]
  exact h.1.take _
theorem splice_cells (bs : List BS) (k : Nat) (num : Int) (A : Option Addr) (c : Nat) (us : List TN) :
    (bs.take k ++ (num, A, c, us) :: bs.drop k).flatMap bdCells = (bs.take k).flatMap bdCells ++ [.int .i64 num, .slice A us.length c] ++ (bs.drop k).flatMap bdCells := by
  rw [List.flatMap_append, List.flatMap_cons, List.append_assoc]; rfl
theorem splice_map (bs : List BS) (k : Nat) (num : Int) (A : Option Addr) (c : Nat) (us : List TN) :
    (bs.take k ++ (num, A, c, us) :: bs.drop k).map mb = (bs.map mb).take k ++ (num, us) :: (bs.map mb).drop k := by
  rw [List.map_append, List.map_cons, List.map_take, List.map_drop]
theorem splice_len (bs : List BS) (k : Nat) (x : BS) (hk : k ≤ bs.length) : (bs.take k ++ x :: bs.drop k).length = k + 1 + (bs.length - k) := by
  rw [List.length_append, List.length_cons, List.length_take, List.length_drop]; omega

theorem bd_one2 (bs : List BS) : ∀ u ∈ bs.flatMap bdCells, u.oneCell' = true := by
  intro u hu
  obtain ⟨b, _, h⟩ := List.mem_flatMap.1 hu
  unfold bdCells at h
  simp at h
  rcases h with rfl | rfl <;> rfl
theorem splice_post {w w5 : World} {S : Option Addr} {bs : List BS} {e0 : Int → Option (List TN)} {num : Int} {us : List TN} {k c2 c5 : Nat} {A2 A5 : Option Addr} (hk : k ≤ bs.length) (hR : Rep (bs.map mb) e0) (hN : e0 num = none)
    (hlt : ∀ b ∈ bs.take k, b.1 < num) (hge : ∀ b, bs[k]? = some b → num ≤ b.1) (hS : InB w S bs) (hB : Below w.heap.size w w5) (hT : w5.ownsRow w.heap.size 33 3 (.slice A2 us.length c2) us.length (us.flatMap ndCells))
    (hO : w5.ownsRow w.heap.size 43 2 (.slice A5 (k + 1 + (bs.length - k)) c5) (k + 1 + (bs.length - k)) ((bs.take k).flatMap bdCells ++ [.int .i64 num, .slice A2 us.length c2] ++ (bs.drop k).flatMap bdCells)) (hu : us.length ≤ 512) (hf : Full 1 us) :
    RmPost [(1, num, 0)] us bs.length e0 w (.returned (.tuple #[.slice A5 (k + 1 + (bs.length - k)) c5, .bool true])) w5 := by
  have hm : mtch [(1, num, 0)] us e0 = true := by rw [mtch_one hf, hN]
  rw [← splice_cells, ← splice_len bs k (num, A2, c2, us) hk] at hO
  rw [← splice_len bs k (num, A2, c2, us) hk]
  refine ⟨A5, c5, _, by rw [hm], hB, fun _ => ⟨⟨InC.own hO, fun b hb => ?_⟩, ?_, ?_, row_le2 hO⟩⟩
  · have hS' := (hS.below hB).2
    rcases List.mem_append.1 hb with hb | hb
    · exact hS' b (List.mem_of_mem_take hb)
    · rcases List.mem_cons.1 hb with rfl | hb
      · exact ⟨InC.own hT, by unfold maxLen; show us.length ≤ _; omega, row_le2 hT⟩
      · exact hS' b (List.mem_of_mem_drop hb)
  · rw [splice_map, finE_one hf]
    refine rep_insert hR hN (fun b hb => ?_) fun b hb => ?_
    · rw [← List.map_take] at hb
      obtain ⟨x, hx, rfl⟩ := List.mem_map.1 hb
      exact hlt x hx
    · rw [List.getElem?_map] at hb
      cases hx : bs[k]? with
      | none => rw [hx] at hb; cases hb
      | some x => rw [hx] at hb; cases hb; exact hge x hx
  · rw [splice_len bs k _ hk]
    show _ ≤ bs.length + 1
    omega

end Go.Proofs.YtcnanbmbdajcaaaDoor
