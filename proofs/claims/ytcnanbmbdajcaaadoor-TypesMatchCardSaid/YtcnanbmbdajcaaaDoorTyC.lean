/- Types in preorder: what the reference's walk and ValidType return. Condition: a list of nodes has a length. -/
import Derived.Test.YtcnanbmbdajcaaaDoorTyA
import Derived.Deep.RegionHeld3
namespace Go.Proofs.YtcnanbmbdajcaaaDoor
open Go.RowKit M

/-- the index behind a type, as walk says it -/
def WalkPost (o : Option (List TN)) (n : Nat) (w : World) (e : Ending) (w' : World) : Prop :=
  Below w.heap.size w w' ∧ match o with
    | none => e = .returned (.int .i64 (-1))
    | some r => e = .returned (.int .i64 ((n - r.length : Nat) : Int))
theorem arity_b (t : TN) (b : Bool) (h : vN t = b) (w : World) :
    Calls Tryd.prog 44 #[.agg #[.int .i64 t.1, .int .i64 t.2.1, .int .i64 t.2.2]] w fun e w' => e = .returned (.bool b) ∧ w.alloc (.cells #[.int .i64 t.1, .int .i64 t.2.1, .int .i64 t.2.2] 33) = w' := by
  subst h; exact arity_any _ _ _ w
theorem drop_at {α : Type} {ts : List α} {i : Nat} {t : α} (h : ts[i]? = some t) : ts.drop i = t :: ts.drop (i + 1) := by
  obtain ⟨h1, h2⟩ := List.getElem?_eq_some_iff.1 h
  rw [List.drop_eq_getElem_cons h1, h2]
theorem bt_cons' {d : Nat} {t : TN} {r : List TN} (h : vN t = true) : bt (d + 1) (t :: r) = itK (bt d) t.2.2.toNat r := by
  conv => lhs; unfold bt
  rw [if_pos h]
theorem bt_bad' {d : Nat} {t : TN} {r : List TN} (h : vN t = false) : bt (d + 1) (t :: r) = none := by
  conv => lhs; unfold bt
  rw [if_neg (by simp [h])]

set_option maxRecDepth 100000 in
set_option maxHeartbeats 3200000 in
theorem walk_any : ∀ (d : Nat), d ≤ 64 → ∀ (D : Int), D = 65 - (d : Int) → ∀ (w : World) (A : Option Addr) (n c i : Nat) (ts : List TN), n = ts.length → n ≤ maxLen → i ≤ n → InC w A (ts.flatMap ndCells) →
    Calls Tryd.prog 28 #[.slice A n c, .int .i64 i, .int .i64 D] w (WalkPost (bt d (ts.drop i)) n w) := by
  intro d
  induction d with
  | zero =>
    intro _ D hD w A n c i ts hn hl hi hA
    rw [show bt 0 (ts.drop i) = none from rfl]
    have hD2 : D = 65 := by omega
    subst hD2
    clear hn hA hD
    unfold maxLen at hl
    go_enter Tryd.func28, Tryd.ntmps28
    go_wp2_with fail
    all_goals
      go_ret
      exact ⟨Below.refl _ _, rfl⟩
  | succ d ih =>
    intro hd D hD w A n c i ts hn hl hi hA
    unfold maxLen at hl
    have hD1 : 1 ≤ D := by omega
    have hD2 : D ≤ 64 := by omega
    have IH := hide (ih (by omega) (D + 1) (by omega))
    clear ih hD
    by_cases hlt : i < n
    · have hlt2 : i < ts.length := by omega
      obtain ⟨t, ht⟩ : ∃ t, ts[i]? = some t := ⟨ts[i], List.getElem?_eq_getElem hlt2⟩
      have hdr := drop_at ht
      rw [hdr]
      obtain ⟨b, off, rfl, hb, hcell⟩ := hA.elem nd_len ht (by decide)
      have x0 := hcell 0 _ rfl
      have x1 := hcell 1 _ rfl
      have x2 := hcell 2 _ rfl
      simp only [Nat.add_zero] at x0
      have HA := hide hA
      have HN := Lib.hid hn
      clear hcell hdr hn hA ht hlt2
      have g0 : decide (n ≤ i) = false := decide_eq_false (by omega)
      have g1 : decide ((64 : Int) < D) = false := decide_eq_false (by omega)
      cases hv : vN t
      · have CV := Lib.hid (arity_b t _ hv)
        rw [bt_bad' hv]
        clear hv IH
        go_enter Tryd.func28, Tryd.ntmps28
        go_wp2_with fail
        refine (CV.out _).mono ?_
        rintro e w1 ⟨rfl, rfl⟩
        go_wp2_with fail
        go_ret
        exact ⟨(Below.refl _ _).alloc (Nat.le_refl _) _, rfl⟩
      · have CV := Lib.hid (arity_b t _ hv)
        rw [bt_cons' hv]
        obtain ⟨hk0, hk9⟩ := vN_kids hv
        obtain ⟨k, num, kids⟩ := t
        simp only at hk0 hk9 x0 x1 x2
        obtain ⟨K, rfl⟩ : ∃ K : Nat, kids = K := ⟨kids.toNat, by omega⟩
        simp only [Int.toNat_natCast] at CV ⊢
        generalize ho : itK (bt d) K (ts.drop (i + 1)) = o
        have HO := Lib.hid ho
        clear ho hv hk0
        go_enter Tryd.func28, Tryd.ntmps28
        go_wp2_with fail
        refine (CV.out _).mono ?_
        rintro e w1 ⟨rfl, rfl⟩
        go_wp2_with fail
        go_loopw [1, 8] (fun vi vk wr => ∃ (j i' : Nat), vk = .int .i64 j ∧ j ≤ K ∧ vi = .int .i64 i' ∧ i' ≤ n ∧ Hid (itK (bt d) (K - j) (ts.drop i') = o) ∧ Hid (Below w.heap.size w wr)) (fun _ vk _ => K - (intOf vk).toNat)
        case atStart => exact ⟨0, i + 1, rfl, by omega, by go_num, by omega, HO.out, (Below.refl _ _).alloc (Nat.le_refl _) _⟩
        case round =>
          obtain ⟨j, i', rfl, hj, rfl, hi', HE', HB'⟩ := hrel
          by_cases hlt2 : j < K
          · have hE : itK (bt d) (K - j) (ts.drop i') = o := HE'.out
            rw [show K - j = (K - (j + 1)) + 1 by omega] at hE
            unfold itK at hE
            have CI := IH.out wr _ n c i' ts HN.out (by unfold maxLen; omega) hi' ((unhide HA).below HB'.out)
            cases hb2 : bt d (ts.drop i') with
            | none =>
              rw [hb2] at CI hE
              simp only at hE
              subst hE
              clear hb2 HE' HO
              go_wp2_with fail
              refine CI.mono ?_
              rintro e w2 ⟨hb2, rfl⟩
              have HB2 := hide (HB'.out.trans (hb2.mono HB'.out.size))
              clear hb2
              go_wp2_with fail
              go_ret
              exact ⟨unhide HB2, rfl⟩
            | some l' =>
              rw [hb2] at CI hE
              simp only at hE
              have hln := bt_len _ _ _ hb2
              have hdp := bt_drop _ _ _ hb2
              rw [List.length_drop, List.drop_drop, ← HN.out] at hdp
              rw [List.length_drop, ← HN.out] at hln
              have hll : l'.length ≤ n := by omega
              have hdp2 : l' = ts.drop (n - l'.length) := by
                rw [show i' + (n - i' - l'.length) = n - l'.length by omega] at hdp
                exact hdp
              obtain ⟨m, hm⟩ : ∃ m, n - l'.length = m := ⟨_, rfl⟩
              have hmn : m ≤ n := by omega
              rw [hm] at hdp2
              rw [hdp2] at hE
              have HM := Lib.hid hm
              have HE2 := Lib.hid hE
              clear hb2 HE' hE hln hdp hm hll hdp2
              go_wp2_with fail
              refine CI.mono ?_
              rintro e w2 ⟨hb2, he⟩
              have he2 : e = .returned (.int .i64 (m : Int)) := by rw [← HM.out]; exact he
              subst he2
              have HB2 := hide (HB'.out.trans (hb2.mono HB'.out.size))
              clear hb2 he
              go_wp2_with fail
              go_roundw
              case rel => exact ⟨j + 1, m, by go_num, by omega, rfl, hmn, HE2.out, unhide HB2⟩
              case measure => simp [intOf]; omega
          · have hjK : K - j = 0 := by omega
            have hE : itK (bt d) (K - j) (ts.drop i') = o := HE'.out
            rw [hjK] at hE
            have hE2 : some (ts.drop i') = o := hE
            subst hE2
            clear hE hjK HE' HO
            go_wp2_with fail
            go_ret
            exact ⟨HB'.out, by show _ = Ending.returned (.int .i64 ((n - (ts.drop i').length : Nat) : Int)); rw [List.length_drop, ← HN.out, show n - (n - i') = i' by omega]; rfl⟩
    · have hd0 : ts.drop i = [] := List.drop_eq_nil_of_le (by omega)
      rw [hd0, show bt (d + 1) [] = none from rfl]
      clear hd0 hn hA
      go_enter Tryd.func28, Tryd.ntmps28
      go_wp2_with fail
      go_ret
      exact ⟨Below.refl _ _, rfl⟩

set_option maxRecDepth 100000 in
set_option maxHeartbeats 3200000 in
theorem rvalid_any (w : World) (A : Option Addr) (n c : Nat) (ts : List TN) (hn : n = ts.length) (hl : n ≤ maxLen) (hA : InC w A (ts.flatMap ndCells)) :
    Calls Tryd.prog 8 #[.slice A n c] w fun e w' => e = .returned (.bool (valT ts)) ∧ Below w.heap.size w w' := by
  have CB := hide (walk_any 64 (by omega) 1 rfl w A n c 0 ts hn hl (by omega) hA)
  unfold maxLen at hl
  rw [List.drop_zero] at CB
  by_cases h5 : n ≤ 512
  · cases hb : bt 64 ts with
    | none =>
      have HV : Hid (valT ts = false) := by show valT ts = false; unfold valT; rw [hb]; simp
      have g1 : ((-1 : Int) == (n : Int)) = false := beq_eq_false_iff_ne.2 (by omega)
      rw [hb] at CB
      clear hb hn hA
      go_enter Tryd.func8, Tryd.ntmps8
      go_wp2_with fail
      refine (unhide CB).mono ?_
      rintro e w1 ⟨hb1, rfl⟩
      go_wp2_with fail
      go_ret
      exact ⟨by rw [HV.out]; rfl, hb1⟩
    | some r =>
      have hln := bt_len _ _ _ hb
      have HV : Hid (valT ts = (((n - r.length : Nat) : Int) == (n : Int))) := by
        show valT ts = _; unfold valT; rw [hb, ← hn, decide_eq_true h5, Bool.true_and, Bool.eq_iff_iff]
        simp only [Option.some.injEq, decide_eq_true_eq, beq_iff_eq]
        constructor
        · rintro rfl; simp
        · intro h; exact List.eq_nil_of_length_eq_zero (by omega)
      rw [hb] at CB
      clear hb hn hA hln
      generalize valT ts = V at *
      go_enter Tryd.func8, Tryd.ntmps8
      go_wp2_with fail
      refine (unhide CB).mono ?_
      rintro e w1 ⟨hb1, rfl⟩
      go_wp2_with fail
      go_ret
      exact ⟨ret_bool HV.out.symm, hb1⟩
  · have HV : Hid (valT ts = false) := by show valT ts = false; unfold valT; rw [← hn, decide_eq_false h5]; rfl
    clear hn hA CB
    go_enter Tryd.func8, Tryd.ntmps8
    go_wp2_with fail
    go_ret
    exact ⟨by rw [HV.out]; rfl, Below.refl _ _⟩
theorem rvalid_b (ts : List TN) (b : Bool) (h : valT ts = b) (w : World) (A : Option Addr) (c : Nat) (hl : ts.length ≤ maxLen) (hA : InC w A (ts.flatMap ndCells)) :
    Calls Tryd.prog 8 #[.slice A ts.length c] w fun e w' => e = .returned (.bool b) ∧ Below w.heap.size w w' := by
  subst h; exact rvalid_any w A _ c ts rfl hl hA

end Go.Proofs.YtcnanbmbdajcaaaDoor
