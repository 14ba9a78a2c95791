/- Equality of two lists of nodes: help.Equal, slices.Equal, types.Equal. Condition: at most 262144 nodes. -/
import Derived.Test.YtcnanbmbdajcaaaDoorTyD
import Derived.Deep.QuietTactic
import Derived.BigQuiet
namespace Go.Proofs.YtcnanbmbdajcaaaDoor
open Go.RowKit M

theorem take_eq {ts us : List TN} {k : Nat} {t : TN} (h : ts.take k = us.take k) (h1 : ts[k]? = some t) (h2 : us[k]? = some t) : ts.take (k + 1) = us.take (k + 1) := by
  rw [List.take_add_one, List.take_add_one, h, h1, h2]
theorem ne_at {ts us : List TN} {k : Nat} {t u : TN} (h1 : ts[k]? = some t) (h2 : us[k]? = some u) (h : t ≠ u) : ts ≠ us := by
  rintro rfl; rw [h1] at h2; exact h (Option.some.inj h2)

set_option maxRecDepth 100000 in
set_option maxHeartbeats 3200000 in
theorem hequal_any (ts us : List TN) (n1 n2 : Nat) (hn1 : n1 = ts.length) (hn2 : n2 = us.length) (hm : n1 ≤ 262144) (A1 A2 : Option Addr) (c1 c2 : Nat) (w : World) (h1 : InC w A1 (ts.flatMap ndCells)) (h2 : InC w A2 (us.flatMap ndCells)) :
    Calls Tryd.prog 14 #[.slice A1 n1 c1, .slice A2 n2 c2] w fun e w' => e = .returned (.bool (decide (ts = us))) ∧ ∃ m, w' = w.drewN m := by
  have H1 := hide h1
  have H2 := hide h2
  have HN1 := Lib.hid hn1
  have HN2 := Lib.hid hn2
  clear h1 h2 hn1 hn2
  go_enter Tryd.func14, Tryd.ntmps14
  by_cases hnn : n1 = n2
  · subst hnn
    go_wp2_with fail
    go_loopw [5] (fun t wr => ∃ k : Nat, k ≤ n1 ∧ t = .int .i64 k ∧ Hid (ts.take k = us.take k) ∧ Hid (∃ m, wr = w.drewN m)) (fun t _ => n1 - (intOf t).toNat)
    case atStart => exact ⟨0, by omega, rfl, rfl, 0, rfl⟩
    case round =>
      obtain ⟨k, hk, rfl, hT, hW⟩ := hrel
      obtain ⟨m, rfl⟩ := hW
      by_cases hlt : k < n1
      · obtain ⟨t, ht⟩ : ∃ t, ts[k]? = some t := by
          have : k < ts.length := by rw [← HN1.out]; exact hlt
          exact ⟨ts[k], List.getElem?_eq_getElem this⟩
        obtain ⟨u, hu⟩ : ∃ t, us[k]? = some t := by
          have : k < us.length := by rw [← HN2.out]; exact hlt
          exact ⟨us[k], List.getElem?_eq_getElem this⟩
        obtain ⟨b1, o1, rfl, hb1, hc1⟩ := (unhide H1).elem nd_len ht (by decide)
        obtain ⟨b2, o2, rfl, hb2, hc2⟩ := (unhide H2).elem nd_len hu (by decide)
        have HT1 := Lib.hid ht
        have HT2 := Lib.hid hu
        obtain ⟨kd, nu, ki⟩ := t
        obtain ⟨kd', nu', ki'⟩ := u
        have x0 := hc1 0 _ rfl
        have x1 := hc1 1 _ rfl
        have x2 := hc1 2 _ rfl
        have y0 := hc2 0 _ rfl
        have y1 := hc2 1 _ rfl
        have y2 := hc2 2 _ rfl
        simp only [Nat.add_zero] at x0 y0 x1 x2 y1 y2
        clear ht hu hc1 hc2
        by_cases he : kd = kd' ∧ nu = nu' ∧ ki = ki'
        · obtain ⟨rfl, rfl, rfl⟩ := he
          have HTE := Lib.hid (take_eq hT.out HT1.out HT2.out)
          go_wp2
          go_quiet (fail)
          go_wp2
          go_roundw
          case rel => exact ⟨k + 1, by omega, by go_num, HTE.out, _, rfl⟩
          case measure => simp [intOf]; omega
        · have HNE := Lib.hid (ne_at HT1.out HT2.out (fun q => he ⟨congrArg (fun z => z.1) q, congrArg (fun z => z.2.1) q, congrArg (fun z => z.2.2) q⟩))
          have hcase : (kd == kd') = false ∨ ((kd == kd') = true ∧ (nu == nu') = false) ∨ ((kd == kd') = true ∧ (nu == nu') = true ∧ (ki == ki') = false) := by
            by_cases q1 : kd = kd'
            · by_cases q2 : nu = nu'
              · by_cases q3 : ki = ki'
                · exact absurd ⟨q1, q2, q3⟩ he
                · exact .inr (.inr ⟨by simp [q1], by simp [q2], by simp [q3]⟩)
              · exact .inr (.inl ⟨by simp [q1], by simp [q2]⟩)
            · exact .inl (by simp [q1])
          clear he
          rcases hcase with g1 | ⟨g1, g2⟩ | ⟨g1, g2, g3⟩
          all_goals
            go_wp2
            go_quiet (fail)
            go_wp2
            go_ret
            exact ⟨by rw [decide_eq_false HNE.out]; rfl, m + nq, by simp [World.drewN, Nat.add_assoc]⟩
      · have hE : ts = us := by
          have h := hT.out
          rw [List.take_of_length_le (by rw [← HN1.out]; omega), List.take_of_length_le (by rw [← HN2.out]; omega)] at h
          exact h
        have HE := Lib.hid (decide_eq_true hE)
        clear hE
        go_wp2
        go_ret
        exact ⟨by rw [HE.out]; rfl, m, rfl⟩
  · have HNE : Hid (decide (ts = us) = false) := Lib.hid (decide_eq_false (by rintro rfl; exact hnn (HN1.out.trans HN2.out.symm)))
    have g1 : (n1 == n2) = false := beq_eq_false_iff_ne.2 hnn
    have g2 : ((n1 : Int) == (n2 : Int)) = false := beq_eq_false_iff_ne.2 (by omega)
    go_wp2
    go_ret
    exact ⟨by rw [HNE.out]; rfl, 0, rfl⟩

set_option maxRecDepth 100000 in
set_option maxHeartbeats 3200000 in
theorem sequal_any (ts us : List TN) (n1 n2 : Nat) (hn1 : n1 = ts.length) (hn2 : n2 = us.length) (hm : n1 ≤ 262144) (A1 A2 : Option Addr) (c1 c2 : Nat) (w : World) (h1 : InC w A1 (ts.flatMap ndCells)) (h2 : InC w A2 (us.flatMap ndCells)) :
    Calls Tryd.prog 29 #[.slice A1 n1 c1, .slice A2 n2 c2] w fun e w' => e = .returned (.bool (decide (ts = us))) ∧ ∃ m, w' = w.drewN m := by
  have H1 := hide h1
  have H2 := hide h2
  have HN1 := Lib.hid hn1
  have HN2 := Lib.hid hn2
  clear h1 h2 hn1 hn2
  go_enter Tryd.func29, Tryd.ntmps29
  by_cases hnn : n1 = n2
  · subst hnn
    go_wp2_with fail
    go_loopw [13] (fun t wr => ∃ k : Nat, k ≤ n1 ∧ t = .int .i64 k ∧ Hid (ts.take k = us.take k) ∧ Hid (∃ m, wr = w.drewN m)) (fun t _ => n1 - (intOf t).toNat)
    case atStart => exact ⟨0, by omega, rfl, rfl, 0, rfl⟩
    case round =>
      obtain ⟨k, hk, rfl, hT, hW⟩ := hrel
      obtain ⟨m, rfl⟩ := hW
      by_cases hlt : k < n1
      · obtain ⟨t, ht⟩ : ∃ t, ts[k]? = some t := by
          have : k < ts.length := by rw [← HN1.out]; exact hlt
          exact ⟨ts[k], List.getElem?_eq_getElem this⟩
        obtain ⟨u, hu⟩ : ∃ t, us[k]? = some t := by
          have : k < us.length := by rw [← HN2.out]; exact hlt
          exact ⟨us[k], List.getElem?_eq_getElem this⟩
        obtain ⟨b1, o1, rfl, hb1, hc1⟩ := (unhide H1).elem nd_len ht (by decide)
        obtain ⟨b2, o2, rfl, hb2, hc2⟩ := (unhide H2).elem nd_len hu (by decide)
        have HT1 := Lib.hid ht
        have HT2 := Lib.hid hu
        obtain ⟨kd, nu, ki⟩ := t
        obtain ⟨kd', nu', ki'⟩ := u
        have x0 := hc1 0 _ rfl
        have x1 := hc1 1 _ rfl
        have x2 := hc1 2 _ rfl
        have y0 := hc2 0 _ rfl
        have y1 := hc2 1 _ rfl
        have y2 := hc2 2 _ rfl
        simp only [Nat.add_zero] at x0 y0 x1 x2 y1 y2
        clear ht hu hc1 hc2
        by_cases he : kd = kd' ∧ nu = nu' ∧ ki = ki'
        · obtain ⟨rfl, rfl, rfl⟩ := he
          have HTE := Lib.hid (take_eq hT.out HT1.out HT2.out)
          go_wp2
          go_quiet (fail)
          go_wp2
          go_roundw
          case rel => exact ⟨k + 1, by omega, by go_num, HTE.out, _, rfl⟩
          case measure => simp [intOf]; omega
        · have HNE := Lib.hid (ne_at HT1.out HT2.out (fun q => he ⟨congrArg (fun z => z.1) q, congrArg (fun z => z.2.1) q, congrArg (fun z => z.2.2) q⟩))
          have hcase : (kd == kd') = false ∨ ((kd == kd') = true ∧ (nu == nu') = false) ∨ ((kd == kd') = true ∧ (nu == nu') = true ∧ (ki == ki') = false) := by
            by_cases q1 : kd = kd'
            · by_cases q2 : nu = nu'
              · by_cases q3 : ki = ki'
                · exact absurd ⟨q1, q2, q3⟩ he
                · exact .inr (.inr ⟨by simp [q1], by simp [q2], by simp [q3]⟩)
              · exact .inr (.inl ⟨by simp [q1], by simp [q2]⟩)
            · exact .inl (by simp [q1])
          clear he
          rcases hcase with g1 | ⟨g1, g2⟩ | ⟨g1, g2, g3⟩
          all_goals
            go_wp2
            go_quiet (fail)
            go_wp2
            go_ret
            exact ⟨by rw [decide_eq_false HNE.out]; rfl, m + nq, by simp [World.drewN, Nat.add_assoc]⟩
      · have hE : ts = us := by
          have h := hT.out
          rw [List.take_of_length_le (by rw [← HN1.out]; omega), List.take_of_length_le (by rw [← HN2.out]; omega)] at h
          exact h
        have HE := Lib.hid (decide_eq_true hE)
        clear hE
        go_wp2
        go_ret
        exact ⟨by rw [HE.out]; rfl, m, rfl⟩
  · have HNE : Hid (decide (ts = us) = false) := Lib.hid (decide_eq_false (by rintro rfl; exact hnn (HN1.out.trans HN2.out.symm)))
    have g1 : (n1 == n2) = false := beq_eq_false_iff_ne.2 hnn
    have g2 : ((n1 : Int) == (n2 : Int)) = false := beq_eq_false_iff_ne.2 (by omega)
    go_wp2
    go_ret
    exact ⟨by rw [HNE.out]; rfl, 0, rfl⟩

theorem tequal_any (ts us : List TN) (n1 n2 : Nat) (hn1 : n1 = ts.length) (hn2 : n2 = us.length) (hm : n1 ≤ 262144) (A1 A2 : Option Addr) (c1 c2 : Nat) (w : World) (h1 : InC w A1 (ts.flatMap ndCells)) (h2 : InC w A2 (us.flatMap ndCells)) :
    Calls Tryd.prog 9 #[.slice A1 n1 c1, .slice A2 n2 c2] w fun e w' => e = .returned (.bool (decide (ts = us))) ∧ ∃ m, w' = w.drewN m := by
  have C := hide (sequal_any ts us n1 n2 hn1 hn2 hm A1 A2 c1 c2 w h1 h2)
  clear h1 h2 hn1 hn2
  generalize decide (ts = us) = d at *
  go_enter Tryd.func9, Tryd.ntmps9
  go_wp2_with fail
  refine (unhide C).mono ?_
  rintro e w1 ⟨rfl, m, rfl⟩
  go_wp2_with fail
  go_ret
  exact ⟨rfl, m, rfl⟩

end Go.Proofs.YtcnanbmbdajcaaaDoor
