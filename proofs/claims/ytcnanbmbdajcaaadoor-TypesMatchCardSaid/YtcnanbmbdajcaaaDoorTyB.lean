/- Types in preorder: what behindType and Valid return. Condition: a list of nodes has a length. -/
import Derived.Test.YtcnanbmbdajcaaaDoorTyA
import Derived.Deep.RegionHeld3
namespace Go.Proofs.YtcnanbmbdajcaaaDoor
open Go.RowKit M

/-- what lies behind a type, as behindType says it -/
def BehPost (o : Option (List TN)) (w : World) (e : Ending) (w' : World) : Prop :=
  Below w.heap.size w w' ∧ match o with
    | none => e = .returned (.tuple #[.slice none 0 0, .bool false])
    | some r => ∃ A c, e = .returned (.tuple #[.slice A r.length c, .bool true]) ∧ r.length ≤ c ∧ InC w' A (r.flatMap ndCells)
theorem bt_cons {d : Nat} {t : TN} {r : List TN} (h : vN t = true) : bt (d + 1) (t :: r) = itK (bt d) t.2.2.toNat r := by
  conv => lhs; unfold bt
  rw [if_pos h]
theorem bt_bad {d : Nat} {t : TN} {r : List TN} (h : vN t = false) : bt (d + 1) (t :: r) = none := by
  conv => lhs; unfold bt
  rw [if_neg (by simp [h])]
theorem validNode_b (t : TN) (b : Bool) (h : vN t = b) (w : World) :
    Calls Tryd.prog 43 #[.agg #[.int .i64 t.1, .int .i64 t.2.1, .int .i64 t.2.2]] w fun e w' => e = .returned (.bool b) ∧ w.alloc (.cells #[.int .i64 t.1, .int .i64 t.2.1, .int .i64 t.2.2] 33) = w' := by
  subst h; exact validNode_any _ _ _ w

set_option maxRecDepth 100000 in
set_option maxHeartbeats 3200000 in
theorem behind_any : ∀ (d : Nat), d ≤ 1000 → ∀ (w : World) (A : Option Addr) (n c : Nat) (ts : List TN), n = ts.length → n ≤ maxLen → n ≤ c → InC w A (ts.flatMap ndCells) →
    Calls Tryd.prog 27 #[.slice A n c, .int .i64 d] w (BehPost (bt d ts) w) := by
  intro d
  induction d with
  | zero =>
    intro _ w A n c ts hn hl hc hA
    rw [show bt 0 ts = none from rfl]
    clear hn hc hA
    unfold maxLen at hl
    go_enter Tryd.func27, Tryd.ntmps27
    go_wp2_with fail
    all_goals
      go_ret2
      exact ⟨Below.refl _ _, rfl⟩
  | succ d ih =>
    intro hd w A n c ts hn hl hc hA
    unfold maxLen at hl
    cases ts with
    | nil =>
      rw [show bt (d + 1) [] = none from rfl]
      simp only [List.length_nil] at hn
      subst hn
      clear hA
      go_enter Tryd.func27, Tryd.ntmps27
      go_wp2_with fail
      go_ret2
      exact ⟨Below.refl _ _, rfl⟩
    | cons t r =>
      obtain ⟨b, off, rfl, hb, hcell⟩ := hA.elem nd_len (k := 0) (t := t) rfl (by decide)
      have x0 := hcell 0 _ rfl
      have x1 := hcell 1 _ rfl
      have x2 := hcell 2 _ rfl
      simp only [Nat.zero_mul, Nat.add_zero] at x0 x1 x2
      clear hcell
      have hn0 : n = r.length + 1 := by rw [hn]; rfl
      clear hn
      have IH := hide (ih (by omega))
      clear ih
      have hw1 : IntKind.i64.wrap ((d : Int) + 1 - 1) = (d : Int) := by rw [show ((d : Int) + 1 - 1) = d by omega]; exact IntWalk.i64_in _ (by omega)
      have g0 : ((n : Int) == 0) = false := beq_eq_false_iff_ne.2 (by omega)
      have g1 : ((d : Int) + 1 == 0) = false := beq_eq_false_iff_ne.2 (by omega)
      cases hv : vN t
      · have CV := Lib.hid (validNode_b t _ hv)
        rw [bt_bad hv]
        have hn1 : 0 < n := by omega
        clear hn0 hA hv IH hw1
        go_enter Tryd.func27, Tryd.ntmps27
        go_wp2_with fail
        refine (CV.out _).mono ?_
        rintro e w1 ⟨rfl, rfl⟩
        go_wp2_with fail
        go_ret2
        exact ⟨(Below.refl _ _).alloc (Nat.le_refl _) _, rfl⟩
      · have CV := Lib.hid (validNode_b t _ hv)
        rw [bt_cons hv]
        obtain ⟨hk0, hk9⟩ := vN_kids hv
        have hn1 : 0 < n := by omega
        have HA1 := hide (hA.cut (cap := c) (k := 1) (z := 3) (fun e => by
            have : r = [] := List.eq_nil_of_length_eq_zero (by omega)
            subst this; rfl))
        have hd1 : ((t :: r).flatMap ndCells).drop (1 * 3) = r.flatMap ndCells := rfl
        rw [hd1] at HA1
        obtain ⟨k, num, kids⟩ := t
        simp only at hk0 hk9 x0 x1 x2
        obtain ⟨K, rfl⟩ : ∃ K : Nat, kids = K := ⟨kids.toNat, by omega⟩
        simp only [Int.toNat_natCast] at CV ⊢
        have hrn : n - 1 = r.length := by omega
        have HN := Lib.hid hrn
        have HRL := Lib.hid hn0
        clear hn0 hA hv hk0 hd1 hrn
        generalize ho : itK (bt d) K r = o
        have HO := Lib.hid ho
        clear ho
        have hst : ∃ A1, (if c = 1 then some ⟨b, off, none⟩ else some ⟨b, off + 3, none⟩) = A1 ∧ InC w A1 (r.flatMap ndCells) :=
          ⟨_, rfl, by
            have h := unhide HA1
            by_cases hc1 : c = 1
            · rw [if_pos hc1] at h ⊢; exact h
            · rw [if_neg hc1] at h ⊢; simpa [add_at] using h⟩
        obtain ⟨A1, hA1, hI1⟩ := hst
        have HI1 := hide (hI1.alloc (.cells #[.int .i64 k, .int .i64 num, .int .i64 (K : Int)] 33))
        clear hI1 HA1
        have hcs : (c = 1 ∧ some ⟨b, off, none⟩ = A1) ∨ (¬ c = 1 ∧ some ⟨b, off + 3, none⟩ = A1) := by
          by_cases hc1 : c = 1
          · rw [if_pos hc1] at hA1; exact .inl ⟨hc1, hA1⟩
          · rw [if_neg hc1] at hA1; exact .inr ⟨hc1, hA1⟩
        clear hA1
        rcases hcs with ⟨hc1, rfl⟩ | ⟨hc1, rfl⟩
        all_goals
          go_enter Tryd.func27, Tryd.ntmps27
          go_wp2_with fail
          refine (CV.out _).mono ?_
          rintro e w1 ⟨rfl, rfl⟩
          go_wp2_with fail
          go_loopw [6, 7, 28] (fun vr vo i wr => ∃ (j : Nat) (A' : Option Addr) (n' c' : Nat) (l : List TN), i = .int .i64 j ∧ j ≤ K ∧ vr = .slice A' n' c' ∧ vo = .bool true ∧ n' ≤ c' ∧ n' ≤ 9223372036854775807 ∧ Hid (n' = l.length) ∧ Hid (InC wr A' (l.flatMap ndCells)) ∧ Hid (itK (bt d) (K - j) l = o) ∧ Hid (Below w.heap.size w wr)) (fun _ _ i _ => K - (intOf i).toNat)
          case atStart => exact ⟨0, _, _, _, r, rfl, by omega, by simp [*]; try rfl, rfl, by omega, by omega, HN.out, unhide HI1, HO.out, (Below.refl _ _).alloc (Nat.le_refl _) _⟩
          case round =>
            obtain ⟨j, A', n', c', l, rfl, hj, rfl, rfl, hc', hl', HN', HI', HE', HB'⟩ := hrel
            by_cases hlt : j < K
            · have hE : itK (bt d) (K - j) l = o := HE'.out
              rw [show K - j = (K - (j + 1)) + 1 by omega] at hE
              unfold itK at hE
              have CI := IH wr A' n' c' l HN'.out (by unfold maxLen; omega) hc' HI'.out
              cases hb2 : bt d l with
              | none =>
                rw [hb2] at CI hE
                simp only at hE
                subst hE
                clear hb2 HE' HO
                go_wp2_with fail
                refine CI.mono ?_
                rintro e w2 ⟨hb2, rfl⟩
                have HB2 := hide (HB'.out.trans (hb2.mono HB'.out.size))
                clear hb2
                go_wp2_with fail
                go_ret2
                exact ⟨unhide HB2, rfl⟩
              | some l' =>
                rw [hb2] at CI hE
                simp only at hE
                have hln := bt_len _ _ _ hb2
                have HE2 := Lib.hid hE
                have hll : l'.length ≤ n' := by rw [HN'.out]; omega
                clear hb2 HE' hE hln
                go_wp2_with fail
                refine CI.mono ?_
                rintro e w2 ⟨hb2, A2, c2, rfl, hc2, hi2⟩
                have HB2 := hide (HB'.out.trans (hb2.mono HB'.out.size))
                have HI2 := hide hi2
                clear hb2 hi2
                go_wp2_with fail
                go_roundw
                case rel => exact ⟨j + 1, A2, _, c2, l', by go_num, by omega, rfl, rfl, hc2, by omega, rfl, unhide HI2, HE2.out, unhide HB2⟩
                case measure => simp [intOf]; omega
            · have hjK : K - j = 0 := by omega
              have hE : itK (bt d) (K - j) l = o := HE'.out
              rw [hjK] at hE
              have hE2 : some l = o := hE
              subst hE2
              clear hE hjK HE' HO
              go_wp2_with fail
              go_ret2
              exact ⟨HB'.out, A', c', by rw [HN'.out]; rfl, by rw [← HN'.out]; exact hc', HI'.out⟩

set_option maxRecDepth 100000 in
set_option maxHeartbeats 3200000 in
theorem valid_any (w : World) (A : Option Addr) (n c : Nat) (ts : List TN) (hn : n = ts.length) (hl : n ≤ maxLen) (hc : n ≤ c) (hA : InC w A (ts.flatMap ndCells)) :
    Calls Tryd.prog 7 #[.slice A n c] w fun e w' => e = .returned (.bool (valT ts)) ∧ Below w.heap.size w w' := by
  have CB := hide (behind_any 64 (by omega) w A n c ts hn hl hc hA)
  unfold maxLen at hl
  by_cases h5 : n ≤ 512
  · cases hb : bt 64 ts with
    | none =>
      have HV : Hid (valT ts = false) := by show valT ts = false; unfold valT; rw [hb]; simp
      rw [hb] at CB
      clear hb hn hA
      go_enter Tryd.func7, Tryd.ntmps7
      go_wp2_with fail
      refine (unhide CB).mono ?_
      rintro e w1 ⟨hb1, rfl⟩
      go_wp2_with fail
      go_ret
      exact ⟨by rw [HV.out]; rfl, hb1⟩
    | some r =>
      have HV : Hid (valT ts = decide (r.length = 0)) := by
        show valT ts = _; unfold valT; rw [hb, ← hn, decide_eq_true h5, Bool.true_and]; simp
      rw [hb] at CB
      clear hb hn hA
      generalize valT ts = V at *
      go_enter Tryd.func7, Tryd.ntmps7
      go_wp2_with fail
      refine (unhide CB).mono ?_
      rintro e w1 ⟨hb1, A2, c2, rfl, hc2, hi2⟩
      have HI2 := hide hi2
      clear hi2
      go_wp2_with fail
      go_ret
      exact ⟨ret_bool (by rw [HV.out, Bool.eq_iff_iff]; simp), hb1⟩
  · have HV : Hid (valT ts = false) := by show valT ts = false; unfold valT; rw [← hn, decide_eq_false h5]; rfl
    clear hn hA CB
    go_enter Tryd.func7, Tryd.ntmps7
    go_wp2_with fail
    go_ret
    exact ⟨by rw [HV.out]; rfl, Below.refl _ _⟩
theorem valid_b (ts : List TN) (b : Bool) (h : valT ts = b) (w : World) (A : Option Addr) (c : Nat) (hl : ts.length ≤ maxLen) (hc : ts.length ≤ c) (hA : InC w A (ts.flatMap ndCells)) :
    Calls Tryd.prog 7 #[.slice A ts.length c] w fun e w' => e = .returned (.bool b) ∧ Below w.heap.size w w' := by
  subst h; exact valid_any w A _ c ts rfl hl hc hA

end Go.Proofs.YtcnanbmbdajcaaaDoor
