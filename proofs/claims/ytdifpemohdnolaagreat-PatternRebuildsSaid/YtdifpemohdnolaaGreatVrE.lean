/- The reference's order. Condition: at most 1048576 bytes, at most 32 levels. -/
-- by tools/gen_rord.py
import Derived.Test.YtdifpemohdnolaaGreatVaH
import Derived.Test.YtdifpemohdnolaaGreatVrA
import Derived.Test.YtdifpemohdnolaaGreatApp
import Derived.Laws.Cover1
namespace Go.Proofs.YtdifpemohdnolaaGreat
open Go.RowKit VM

theorem decC_ok (b : Bool) : ∀ d s v r, decC b d s = some (v, r) → s = enc v ++ r ∧ (!b || wf d v) = true := by
  intro d
  induction d with
  | zero => intro s v r h; cases h
  | succ d ih =>
    intro s v r h
    cases b with
    | true =>
      rw [decC_true] at h
      obtain ⟨h1, h2⟩ := dec_ok _ _ _ _ h
      exact ⟨h1, by rw [h2]; rfl⟩
    | false =>
      refine ⟨?_, rfl⟩
      cases s with
      | nil => cases h
      | cons k t =>
        unfold decC at h
        by_cases h1 : k = 1
        · rw [if_pos h1] at h
          split at h
          · simp only [Option.some.injEq, Prod.mk.injEq] at h
            obtain ⟨rfl, rfl⟩ := h
            subst h1
            show _ = (1 :: t.take 8) ++ t.drop 8
            rw [List.cons_append, List.take_append_drop]
          · cases h
        rw [if_neg h1] at h
        by_cases h2 : k = 2
        · rw [if_pos h2] at h
          cases t with
          | nil => cases h
          | cons c t =>
            simp only at h
            split at h
            · simp only [Option.some.injEq, Prod.mk.injEq] at h
              obtain ⟨rfl, rfl⟩ := h
              subst h2; rfl
            · cases h
        rw [if_neg h2] at h
        by_cases h3 : k = 10
        · rw [if_pos h3] at h
          subst h3
          match t, h with
          | a :: c :: t', h =>
            simp only [Option.some.injEq, Prod.mk.injEq] at h
            obtain ⟨rfl, rfl⟩ := h
            rfl
        rw [if_neg h3] at h
        split at h
        · match t, h with
          | a :: c :: t', h =>
            simp only at h
            cases hd : decs (decC false d) (u16 a c) t' with
            | none => rw [hd] at h; cases h
            | some q =>
              obtain ⟨l, r2⟩ := q
              rw [hd] at h
              simp only [Bool.not_false, Bool.true_or, if_true, Option.some.injEq, Prod.mk.injEq] at h
              obtain ⟨rfl, rfl⟩ := h
              obtain ⟨a1, a2, _⟩ := decs_ok (p := fun _ => true) (fun s v r q => ⟨(ih s v r q).1, rfl⟩) _ _ _ _ hd
              show _ = (k :: UInt8.ofNat (l.length / 256) :: UInt8.ofNat l.length :: encs l) ++ r2
              rw [a2, (ofNat_u16 a c).1, (ofNat_u16 a c).2, a1]
              simp
        · cases h
def PartsOf (v : V) (ps : List ByteArray) : Prop := match v with
  | .comp _ l => ps.map bs = l.map enc
  | _ => ps = []
/-- what walk leaves -/
def WkPost (o : Option (V × List UInt8)) (N d : Nat) (w : World) (e : Ending) (w' : World) : Prop := match o with
  | none => e = .returned (.tuple #[.int .i64 0, .slice none 0 0, .int .i64 0]) ∧ Below w.heap.size w w'
  | some (v, r) => ∃ (A : Option Addr) (c : Nat) (ps : List ByteArray) (dd : Nat), e = .returned (.tuple #[.int .i64 ((N - r.length : Nat) : Int), .slice A ps.length c, .int .i64 (dd : Int)]) ∧ dd ≤ d ∧
      w'.ownsRow w.heap.size 23 1 (.slice A ps.length c) ps.length (ps.map Value.string) ∧ PartsOf v ps ∧ Below w.heap.size w w'
def WkCon (b : Bool) (d : Nat) : Prop := ∀ (s : ByteArray) (w : World), s.size ≤ 1048576 →
  Calls Tryz.prog 68 #[.string s, .int .i64 (d : Int), .bool b] w (WkPost (decC b d (bs s)) s.size d w)
def PtCon (d : Nat) : Prop := ∀ (k : UInt8) (l : List V) (ps : List ByteArray) (A : Option Addr) (n c : Nat) (w : World), n = ps.length → n ≤ 65535 → isComp k = true → l.all (wf d) = true → ps.map bs = l.map enc → (∀ s ∈ ps, s.size ≤ 1048576) → InC w A (ps.map Value.string) →
  Calls Tryz.prog 84 #[.int .i64 (k.toNat : Int), .slice A n c] w fun e w' => e = .returned (.bool (parted (ord d) k l)) ∧ Below w.heap.size w w'
theorem val_info : (Tryz.prog.info? 23).map (fun i => (i.zero, i.size, i.bytes)) = some (some (.string ⟨#[]⟩), 1, 16) := by kernel_rfl
theorem drop0 {s : ByteArray} {k : UInt8} {r : List UInt8} (h : bs s = k :: r) : s.size = r.length + 1 ∧ (∀ (hh : 0 < s.size), s[0] = k) ∧ ∀ i (hh : i + 1 < s.size), r[i]? = some (s[i + 1]'hh) := by
  have hl := congrArg List.length h
  rw [bs_size, List.length_cons] at hl
  refine ⟨hl, fun hh => ?_, fun i hh => ?_⟩
  · have := bs_get s 0 hh
    rw [h] at this
    exact (Option.some.inj this).symm
  · have := bs_get s (i + 1) hh
    rw [h] at this
    exact this
theorem wk_none {N d : Nat} {w w' : World} {o : Option (V × List UInt8)} (h : o = none) (hb : Below w.heap.size w w') : WkPost o N d w (.returned (.tuple #[.int .i64 0, .slice none 0 0, .int .i64 0])) w' := by
  subst h; exact ⟨rfl, hb⟩
theorem wk_simple {N d : Nat} {w w' : World} {o : Option (V × List UInt8)} {v : V} {r : List UInt8} (z : Int) (h : o = some (v, r)) (hv : ∀ k l, v ≠ .comp k l) (hz : z = ((N - r.length : Nat) : Int)) (hb : Below w.heap.size w w') (hd : 1 ≤ d) : WkPost o N d w (.returned (.tuple #[.int .i64 z, .slice none 0 0, .int .i64 1])) w' := by
  subst h; subst hz
  refine ⟨none, 0, [], 1, rfl, hd, World.ownsRow_nil _ _ _ _, ?_, hb⟩
  cases v with
  | comp k l => exact absurd rfl (hv k l)
  | _ => rfl

set_option linter.unusedSimpArgs false in
set_option maxRecDepth 100000 in
set_option maxHeartbeats 12800000 in
theorem walk_simple (b : Bool) (d : Nat) (s : ByteArray) (k : UInt8) (r : List UInt8) (h : bs s = k :: r) (hk : isComp k = false ∨ r.length < 2) (hb : s.size ≤ 1048576) (w : World) :
    Calls Tryz.prog 68 #[.string s, .int .i64 ((d + 1 : Nat) : Int), .bool b] w (WkPost (decC b (d + 1) (k :: r)) s.size (d + 1) w) := by
  obtain ⟨z1, z2, z3⟩ := drop0 h
  have gd : ((d : Int) + 1 == 0) = false := beq_eq_false_iff_ne.2 (by omega)
  have hs0 : 0 < s.size := by omega
  have e1 := z2 hs0
  have wk : wrap64 (k.toNat : Int) = (k.toNat : Int) := IntWalk.wrap64_in _ (by have := k.toNat_lt; omega)
  by_cases hr : r = []
  · subst hr
    have hd : decC b (d + 1) [k] = none := by
      unfold decC
      split
      · rfl
      split
      · rfl
      split
      · rfl
      split <;> rfl
    have hz : s.size ≤ 1 := by simp at z1; omega
    clear z1 z2 z3 e1 h hk
    go_enter Tryz.func68, Tryz.ntmps68
    go_wp2_with fail
    all_goals
      go_ret3
      first | exact wk_none hd (Below.refl _ _) | exact wk_none rfl (Below.refl _ _)
  obtain ⟨c, r1, rfl⟩ : ∃ c r1, r = c :: r1 := by cases r with | nil => exact absurd rfl hr | cons c r1 => exact ⟨c, r1, rfl⟩
  have hs1 : 1 < s.size := by simp at z1; omega
  have e2 : s[1] = c := by have := z3 0 hs1; exact (Option.some.inj this).symm
  by_cases k1 : k = 1
  · subst k1
    by_cases h8 : 8 ≤ (c :: r1).length
    · have hd : decC b (d + 1) (1 :: c :: r1) = some (.int ((c :: r1).take 8), (c :: r1).drop 8) := by unfold decC; rw [if_pos rfl, if_pos h8]
      have hz : (9 : Int) = ((s.size - ((c :: r1).drop 8).length : Nat) : Int) := by rw [List.length_drop]; omega
      have h9 : 9 ≤ s.size := by omega
      clear z1 z2 z3 h hk hr h8 e2
      go_enter Tryz.func68, Tryz.ntmps68
      go_wp2_with fail
      all_goals
        go_ret3
        exact wk_simple 9 hd (fun _ _ q => by cases q) hz (Below.refl _ _) (by omega)
    · have hd : decC b (d + 1) (1 :: c :: r1) = none := by unfold decC; rw [if_pos rfl, if_neg h8]
      have h9 : ¬ 9 ≤ s.size := by omega
      clear z1 z2 z3 h hk hr h8 e2
      go_enter Tryz.func68, Tryz.ntmps68
      go_wp2_with fail
      all_goals
        go_ret3
        first | exact wk_none hd (Below.refl _ _) | exact wk_none rfl (Below.refl _ _)
  by_cases k2 : k = 2
  · subst k2
    by_cases hc1 : c.toNat ≤ 1
    · have hd : decC b (d + 1) (2 :: c :: r1) = some (.bool c, r1) := by
        unfold decC
        rw [if_neg (by decide), if_pos rfl]
        simp only
        rw [if_pos hc1]
      have hz : (2 : Int) = ((s.size - r1.length : Nat) : Int) := by simp at z1; omega
      have g1 : decide ((1 : Int) < (c.toNat : Int)) = false := decide_eq_false (by omega)
      clear z1 z2 z3 h hk hr
      go_enter Tryz.func68, Tryz.ntmps68
      go_wp2_with fail
      all_goals
        go_ret3
        exact wk_simple 2 hd (fun _ _ q => by cases q) hz (Below.refl _ _) (by omega)
    · have hd : decC b (d + 1) (2 :: c :: r1) = none := by
        unfold decC
        rw [if_neg (by decide), if_pos rfl]
        simp only
        rw [if_neg hc1]
      have g1 : decide ((1 : Int) < (c.toNat : Int)) = true := decide_eq_true (by omega)
      clear z1 z2 z3 h hk hr
      go_enter Tryz.func68, Tryz.ntmps68
      go_wp2_with fail
      all_goals
        go_ret3
        first | exact wk_none hd (Below.refl _ _) | exact wk_none rfl (Below.refl _ _)
  have n1 : ((k.toNat : Int) == 1) = false := u8_ne k1
  have n2 : ((k.toNat : Int) == 2) = false := u8_ne k2
  by_cases k3 : k = 10
  · subst k3
    cases r1 with
    | nil =>
      have hd : decC b (d + 1) [10, c] = none := by
        unfold decC
        rw [if_neg (by decide), if_neg (by decide), if_pos rfl]
      have hz : s.size ≤ 2 := by simp at z1; omega
      clear z1 z2 z3 h hk hr e2
      go_enter Tryz.func68, Tryz.ntmps68
      go_wp2_with fail
      all_goals
        go_ret3
        first | exact wk_none hd (Below.refl _ _) | exact wk_none rfl (Below.refl _ _)
    | cons c2 r2 =>
      have hd : decC b (d + 1) (10 :: c :: c2 :: r2) = some (.name c c2, r2) := by
        unfold decC
        rw [if_neg (by decide), if_neg (by decide), if_pos rfl]
      have hz : (3 : Int) = ((s.size - r2.length : Nat) : Int) := by simp at z1; omega
      have h3 : 3 ≤ s.size := by simp at z1; omega
      clear z1 z2 z3 h hk hr e2
      go_enter Tryz.func68, Tryz.ntmps68
      go_wp2_with fail
      all_goals
        go_ret3
        exact wk_simple 3 hd (fun _ _ q => by cases q) hz (Below.refl _ _) (by omega)
  have hd : decC b (d + 1) (k :: c :: r1) = none := by
    unfold decC
    rw [if_neg k1, if_neg k2, if_neg k3]
    rcases hk with hk | hk
    · rw [if_neg (by rw [hk]; simp)]
    · cases r1 with
      | nil => split <;> rfl
      | cons c2 r2 => exfalso; simp only [List.length_cons] at hk; omega
  have hcc : (¬ (3 ≤ k.toNat ∧ k.toNat ≤ 10)) ∨ s.size < 3 := by
    rcases hk with hk | hk
    · left
      unfold isComp at hk
      have h9 := of_decide_eq_false hk
      have : k.toNat ≠ 10 := fun q => k3 (UInt8.toNat_inj.1 (show k.toNat = 10 from q))
      omega
    · right; simp at hk z1; omega
  clear z1 z2 z3 h hk hr e2 k1 k2 k3
  go_enter Tryz.func68, Tryz.ntmps68
  go_wp2_with fail
  all_goals first
    | (exfalso; omega)
    | (go_ret3; first | exact wk_none hd (Below.refl _ _) | exact wk_none rfl (Below.refl _ _))

end Go.Proofs.YtdifpemohdnolaaGreat
namespace Go.Proofs.YtdifpemohdnolaaGreat
open Go.RowKit VM

def joinD (l : List V) (o : Option (List V × List UInt8)) : Option (List V × List UInt8) := match o with
  | none => none
  | some (l', r) => some (l ++ l', r)
theorem joinD_nil (o : Option (List V × List UInt8)) : joinD [] o = o := by cases o <;> rfl
theorem joinD_none {rd : List UInt8 → Option (V × List UInt8)} {m : Nat} {l : List V} {s : List UInt8} (h : rd s = none) : joinD l (decs rd (m + 1) s) = none := by
  unfold decs; rw [h]; rfl
theorem joinD_step {rd : List UInt8 → Option (V × List UInt8)} {m : Nat} {l : List V} {s r : List UInt8} {v : V} (h : rd s = some (v, r)) : joinD l (decs rd (m + 1) s) = joinD (l ++ [v]) (decs rd m r) := by
  conv => lhs; unfold decs
  rw [h]
  simp only
  cases decs rd m r with
  | none => rfl
  | some q => simp [joinD]
def wkF (b : Bool) (d : Nat) (k : UInt8) (o : Option (List V × List UInt8)) : Option (V × List UInt8) := match o with
  | some (l, r) => if (!b || parted (ord d) k l) = true then some (.comp k l, r) else none
  | none => none
theorem wkF_true {d : Nat} {k : UInt8} {l : List V} {r : List UInt8} (h : parted (ord d) k l = true) : wkF true d k (some (l, r)) = some (.comp k l, r) := by
  show (if (!true || parted (ord d) k l) = true then some (V.comp k l, r) else none) = _
  rw [h]; rfl
theorem wkF_bad {d : Nat} {k : UInt8} {l : List V} {r : List UInt8} (h : parted (ord d) k l = false) : wkF true d k (some (l, r)) = none := by
  show (if (!true || parted (ord d) k l) = true then some (V.comp k l, r) else none) = _
  rw [h]; rfl
theorem decC_comp (b : Bool) (d : Nat) (k a c : UInt8) (r : List UInt8) (hc : isComp k = true) : decC b (d + 1) (k :: a :: c :: r) = wkF b d k (decs (decC b d) (u16 a c) r) := by
  have hk : k ≠ 1 ∧ k ≠ 2 ∧ k ≠ 10 := by
    unfold isComp at hc
    rw [decide_eq_true_eq] at hc
    refine ⟨?_, ?_, ?_⟩ <;> (rintro rfl; simp at hc)
  conv => lhs; unfold decC
  rw [if_neg hk.1, if_neg hk.2.1, if_neg hk.2.2, if_pos hc]
  simp only
  cases decs (decC b d) (u16 a c) r with
  | none => rfl
  | some q => rfl

set_option linter.unusedSimpArgs false in
set_option maxRecDepth 100000 in
set_option maxHeartbeats 12800000 in
theorem walk_comp (b : Bool) (d : Nat) (hd : d ≤ 1000) (ih : WkCon b d) (hp : b = true → PtCon d) (s : ByteArray) (k a c : UInt8) (r : List UInt8) (h : bs s = k :: a :: c :: r) (hc : isComp k = true) (hb : s.size ≤ 1048576) (w : World) :
    Calls Tryz.prog 68 #[.string s, .int .i64 ((d + 1 : Nat) : Int), .bool b] w (WkPost (decC b (d + 1) (k :: a :: c :: r)) s.size (d + 1) w) := by
  rw [decC_comp b d k a c r hc]
  obtain ⟨z1, z2, z3⟩ := drop0 h
  have gd : ((d : Int) + 1 == 0) = false := beq_eq_false_iff_ne.2 (by omega)
  have hs3 : 3 ≤ s.size := by simp at z1; omega
  have hs0 : 0 < s.size := by omega
  have hs1 : 1 < s.size := by omega
  have hs2 : 2 < s.size := by omega
  have e0 := z2 hs0
  have e1 : s[1] = a := by have := z3 0 hs1; exact (Option.some.inj this).symm
  have e2 : s[2] = c := by have := z3 1 hs2; exact (Option.some.inj this).symm
  have wk : wrap64 (k.toNat : Int) = (k.toNat : Int) := IntWalk.wrap64_in _ (by have := k.toNat_lt; omega)
  have hor := or_i64 a.toNat c.toNat (by have := a.toNat_lt; omega) c.toNat_lt
  have w1 : wrap64 (a.toNat : Int) = (a.toNat : Int) := IntWalk.wrap64_in _ (by have := a.toNat_lt; omega)
  have w2 : wrap64 (c.toNat : Int) = (c.toNat : Int) := IntWalk.wrap64_in _ (by have := c.toNat_lt; omega)
  have w3 : wrap64 ((a.toNat : Int) * 256) = (a.toNat : Int) * 256 := IntWalk.wrap64_in _ (by have := a.toNat_lt; omega)
  have hk39 : 3 ≤ k.toNat ∧ k.toNat ≤ 9 := by unfold isComp at hc; exact of_decide_eq_true hc
  have n1 : ((k.toNat : Int) == 1) = false := beq_eq_false_iff_ne.2 (by omega)
  have n2 : ((k.toNat : Int) == 2) = false := beq_eq_false_iff_ne.2 (by omega)
  have n3 : ((k.toNat : Int) == 10) = false := beq_eq_false_iff_ne.2 (by omega)
  have hu : ((a.toNat * 256 + c.toNat : Nat) : Int) = ((u16 a c : Nat) : Int) := rfl
  have hn := u16_lt a c
  have hd3 : (bs s).drop 3 = r := by rw [h]; rfl
  have hj : decs (decC b d) (u16 a c) r = joinD [] (decs (decC b d) (u16 a c - 0) ((bs s).drop 3)) := by rw [joinD_nil, hd3]; rfl
  have HJ0 := Lib.hid hj
  have HIH := Lib.hid ih
  have HPT := Lib.hid hp
  have HISC := Lib.hid hc
  obtain ⟨i0, hi0, hiz0, hiz1, hiz2⟩ := info_parts val_info
  obtain ⟨D, hD⟩ : ∃ D, decs (decC b d) (u16 a c) r = D := ⟨_, rfl⟩
  rw [hD] at HJ0
  rw [hD]
  clear z1 z2 z3 h ih hp hd3 hj hD hc
  generalize u16 a c = n at *
  have hu2 : (a.toNat : Int) * 256 + (c.toNat : Int) = (n : Int) := by omega
  go_enter Tryz.func68, Tryz.ntmps68
  go_wp2_with fail
  go_quiet (fail)
  go_wp2_with fail
  go_loopw [11, 12, 13, 14] (fun av dv pv iv wr => ∃ (j q dd : Nat) (ps : List ByteArray) (l : List V), iv = .int .i64 j ∧ av = .int .i64 q ∧ dv = .int .i64 dd ∧ j ≤ n ∧ q ≤ s.size ∧ dd ≤ d ∧ Hid (ps.length = j) ∧ Hid (wr.ownsRow w.heap.size 23 1 pv j (ps.map Value.string)) ∧ Hid (ps.map bs = l.map enc) ∧ Hid (l.all (fun v => !b || wf d v) = true) ∧ Hid (∀ s ∈ ps, s.size ≤ 1048576) ∧ Hid (D = joinD l (decs (decC b d) (n - j) ((bs s).drop q))) ∧ Hid (Below w.heap.size w wr)) (fun _ _ _ iv _ => n - (intOf iv).toNat)
  case atStart => exact ⟨0, 3, 0, [], [], rfl, rfl, rfl, by omega, hs3, by omega, rfl, World.ownsRow_nil _ _ _ _, rfl, rfl, (by intro s h; cases h), HJ0, below_drewN (Below.refl _ _) nq⟩
  case round =>
    obtain ⟨j, q, dd, ps, l, rfl, rfl, rfl, hj, hq, hdd, hpl, hR, hPS, hWF, hSZ, hJ, hB⟩ := hrel
    obtain ⟨A3, c3, rfl⟩ := owns_form hR.out
    by_cases hjn : j < n
    · have hni : n - j = (n - (j + 1)) + 1 := by omega
      have hJ1 := hJ.out
      rw [hni] at hJ1
      have hzz : (s.extract q s.size).size = s.size - q := by
        have := congrArg List.length (bs_extract s q)
        rw [bs_size, List.length_drop, bs_size] at this
        exact this
      have HE := Lib.hid (fun w => HIH.out (s.extract q s.size) w (by omega))
      have hd1 : ((d : Nat) : Int) = ((d + 1 : Nat) : Int) - 1 := by omega
      have hE0 := bs_extract s q
      cases hdec : decC b d ((bs s).drop q) with
      | none =>
        rw [joinD_none hdec] at hJ1
        rw [hE0, hdec] at HE
        rw [hJ1]
        clear hJ hJ1 hdec hE0 hd1 hni hu
        go_wp2_with fail
        refine (HE.out wr).mono ?_
        rintro e w3 hW3
        obtain ⟨rfl, hb3⟩ := hW3
        have HB3 := hide (hB.out.trans (hb3.mono hB.out.size))
        clear hb3
        go_wp2_with fail
        go_ret3
        exact wk_none rfl (unhide HB3)
      | some z =>
        obtain ⟨v, rr⟩ := z
        obtain ⟨g1, g2⟩ := decC_ok b d _ _ _ hdec
        rw [joinD_step hdec] at hJ1
        rw [hE0, hdec] at HE
        have hv0 : 0 < (enc v).length := by cases v <;> exact Nat.succ_pos _
        have hlen := congrArg List.length g1
        rw [List.length_drop, bs_size, List.length_append] at hlen
        obtain ⟨z, hz⟩ : ∃ z, z = (s.extract q s.size).size - rr.length := ⟨_, rfl⟩
        have hz1 : 0 < z := by omega
        have hz2 : q + z ≤ s.size := by omega
        have hz3 : z = (enc v).length := by omega
        have gz : ((z : Int) == 0) = false := beq_eq_false_iff_ne.2 (by omega)
        have HPT2 : Hid (bs (s.extract q (q + z)) = enc v) := Lib.hid (by
          rw [bs_window, g1]
          exact List.take_left' (by omega))
        have HDR : Hid ((bs s).drop (q + z) = rr) := Lib.hid (by
          rw [hz3, ← List.drop_drop, g1, List.drop_left])
        have hpz : (s.extract q (q + z)).size ≤ 1048576 := by rw [← bs_size, HPT2.out]; omega
        have HPS2 : Hid ((ps ++ [s.extract q (q + z)]).map bs = (l ++ [v]).map enc) := Lib.hid (by rw [List.map_append, List.map_append, hPS.out]; simp [HPT2.out])
        have HWF2 : Hid ((l ++ [v]).all (fun v => !b || wf d v) = true) := Lib.hid (by rw [List.all_append, hWF.out]; simpa using g2)
        have HSZ2 : Hid (∀ s' ∈ ps ++ [s.extract q (q + z)], s'.size ≤ 1048576) := Lib.hid (by
          intro x hx
          rcases List.mem_append.1 hx with hx | hx
          · exact hSZ.out x hx
          · rw [List.mem_singleton.1 hx]; exact hpz)
        have HJ2 : Hid (D = joinD (l ++ [v]) (decs (decC b d) (n - (j + 1)) ((bs s).drop (q + z)))) := Lib.hid (by rw [HDR.out]; exact hJ1)
        clear hJ hJ1 hdec hE0 hd1 hni hu g1 g2 hv0 hlen hz3 HPT2 HDR hPS hWF hSZ
        go_wp2_with fail
        refine (HE.out wr).mono ?_
        rintro e w3 hW3
        obtain ⟨A4, c4, ps4, dd4, rfl, hdd4, hown4, _, hb3⟩ := hW3
        rw [← hz]
        have HB3 := hide (hB.out.trans (hb3.mono hB.out.size))
        have HR3 := hide (owns_below hR.out hb3)
        have hz9 := (unhide HB3).size
        clear hb3 hown4 HE hB hR hz
        go_wp2_with (at_builtin; refine wpList_app _ rfl _ _ 24 rfl w.heap.size 23 i0 _ 1 16 Tryz.underlying24 hi0 hiz0 hiz1 hiz2 rfl (by decide) _ j (ps.map Value.string) rfl ((unhide HR3).alloc _) _ 1 1 [.string (s.extract q (q + z))] rfl rfl (new_in _ _ #[.string (s.extract q (q + z))]) (by intro x hx; simp at hx; subst hx; rfl) (by unfold maxLen; omega) (by omega) (by simp; omega) ?_; intro v9 w9 hown9 hgrow9 _)
        have HB9 := hide (below_app ((unhide HB3).alloc hz9 _) ((unhide HR3).alloc _) hgrow9)
        have HR9 := hide hown9
        clear hown9 hgrow9
        go_roundw
        case rel => exact ⟨j + 1, q + z, max dd dd4, _, _, by go_num, by go_num, by rw [show ((max dd dd4 : Nat) : Int) = if dd < dd4 then (dd4 : Int) else (dd : Int) by split <;> omega], by omega, by omega, by omega, Lib.hid (by rw [List.length_append, hpl.out]; rfl), (by show World.ownsRow _ _ _ _ _ _ _; rw [List.map_append]; exact unhide HR9), HPS2.out, HWF2.out, HSZ2.out, HJ2.out, unhide HB9⟩
        case measure => simp [intOf]; omega
    · have hjn2 : j = n := by omega
      subst hjn2
      have HD9 : Hid (D = some (l, (bs s).drop q)) := Lib.hid (by rw [hJ.out, Nat.sub_self]; simp [decs, joinD])
      have hln : l.length = j := by
        have := congrArg List.length hPS.out
        rw [List.length_map, List.length_map, hpl.out] at this
        exact this.symm
      have hdl : ((bs s).drop q).length = s.size - q := by rw [List.length_drop, bs_size]
      have hout : s.size - ((bs s).drop q).length = q := by omega
      clear hJ hu hdl
      cases b with
      | false =>
        have HW9 : Hid (wkF false d k D = some (.comp k l, (bs s).drop q)) := Lib.hid (by rw [HD9.out]; rfl)
        go_wp2_with fail
        go_ret3
        rw [HW9.out]
        refine ⟨A3, c3, ps, dd + 1, ?_, by omega, by rw [hpl.out]; exact hR.out, hPS.out, hB.out⟩
        rw [hpl.out, hout]
        go_num
      | true =>
        have HWA : Hid (l.all (wf d) = true) := Lib.hid (by
          have := hWF.out
          simpa using this)
        have HPQ := Lib.hid (fun w hr => HPT.out rfl k l ps A3 j c3 w hpl.out.symm (by omega) HISC.out HWA.out hPS.out hSZ.out hr)
        cases hpt : parted (ord d) k l with
        | true =>
          have HW9 : Hid (wkF true d k D = some (.comp k l, (bs s).drop q)) := Lib.hid (by rw [HD9.out]; exact wkF_true hpt)
          rw [hpt] at HPQ
          clear hpt
          go_wp2_with fail
          refine (HPQ.out wr (InC.own hR.out)).mono ?_
          rintro e w5 ⟨rfl, hb5⟩
          have HR5 := hide (owns_below hR.out hb5)
          have HB5 := hide (hB.out.trans (hb5.mono hB.out.size))
          clear hb5
          go_wp2_with fail
          go_ret3
          rw [HW9.out]
          refine ⟨A3, c3, ps, dd + 1, ?_, by omega, by rw [hpl.out]; exact unhide HR5, hPS.out, unhide HB5⟩
          rw [hpl.out, hout]
          go_num
        | false =>
          have HW9 : Hid (wkF true d k D = none) := Lib.hid (by rw [HD9.out]; exact wkF_bad hpt)
          rw [hpt] at HPQ
          clear hpt
          go_wp2_with fail
          refine (HPQ.out wr (InC.own hR.out)).mono ?_
          rintro e w5 ⟨rfl, hb5⟩
          have HB5 := hide (hB.out.trans (hb5.mono hB.out.size))
          clear hb5
          go_wp2_with fail
          go_ret3
          exact wk_none HW9.out (unhide HB5)

end Go.Proofs.YtdifpemohdnolaaGreat
namespace Go.Proofs.YtdifpemohdnolaaGreat
open Go.RowKit VM

set_option maxRecDepth 100000 in
set_option maxHeartbeats 3200000 in
theorem walk_zero (b : Bool) : WkCon b 0 := by
  intro s w hb
  go_enter Tryz.func68, Tryz.ntmps68
  go_wp2_with fail
  all_goals
    go_ret3
    exact wk_none rfl (Below.refl _ _)
set_option maxRecDepth 100000 in
set_option maxHeartbeats 3200000 in
theorem walk_up (b : Bool) (d : Nat) (hd : d ≤ 1000) (ih : WkCon b d) (hp : b = true → PtCon d) : WkCon b (d + 1) := by
  intro s w hb
  cases hs : bs s with
  | nil =>
    have hz : s.size = 0 := by rw [← bs_size, hs]; rfl
    have gd : ((d : Int) + 1 == 0) = false := beq_eq_false_iff_ne.2 (by omega)
    clear hs ih hp
    go_enter Tryz.func68, Tryz.ntmps68
    go_wp2_with fail
    all_goals
      go_ret3
      exact wk_none rfl (Below.refl _ _)
  | cons k r =>
    by_cases hk : isComp k = false ∨ r.length < 2
    · exact walk_simple b d s k r hs hk hb w
    · have hc : isComp k = true := by
        cases h : isComp k with
        | true => rfl
        | false => exact absurd (Or.inl h) hk
      match r, hs, hk with
      | [], _, hk => exact absurd (Or.inr (by simp)) hk
      | [a], _, hk => exact absurd (Or.inr (by simp)) hk
      | a :: c :: r, hs, _ => exact walk_comp b d hd ih hp s k a c r hs hc hb w
theorem walk_all (b : Bool) (hp : ∀ d, d ≤ 1000 → b = true → PtCon d) : ∀ d, d ≤ 1001 → WkCon b d := by
  intro d
  induction d with
  | zero => intro _; exact walk_zero b
  | succ d ih => intro h; exact walk_up b d (by omega) (ih (by omega)) (hp d (by omega))
theorem walk_plain (d : Nat) (h : d ≤ 1001) : WkCon false d := walk_all false (fun _ _ h => by cases h) d h

set_option maxHeartbeats 800000 in
theorem rsign_any (p q : Bool) (w : World) : Calls Tryz.prog 70 #[.bool p, .bool q] w fun e w' => e = .returned (.int .i64 (if p = true then -1 else if q = true then 1 else 0)) ∧ w = w' := by
  cases p
  · cases q
    all_goals
      go_enter Tryz.func70, Tryz.ntmps70
      go_wp2
      go_ret
      exact ⟨rfl, rfl⟩
  · go_enter Tryz.func70, Tryz.ntmps70
    go_wp2
    go_ret
    exact ⟨rfl, rfl⟩

set_option maxRecDepth 100000 in
set_option maxHeartbeats 1600000 in
theorem rnumber_any (s : ByteArray) (hsz : 8 ≤ s.size) (hb : s.size ≤ 1048576) (w : World) :
    Calls Tryz.prog 85 #[.string s] w fun e w' => e = .returned (.int .i64 (numL ((bs s).take 8))) ∧ w = w' := by
  go_enter Tryz.func85, Tryz.ntmps85
  go_wp2_with fail
  go_loopw [3, 4] (fun nv iv wr => ∃ i m : Nat, iv = .int .i64 i ∧ nv = .int .u64 m ∧ i ≤ 8 ∧ Hid (m = natL ((bs s).take i)) ∧ wr = w) (fun _ iv _ => 8 - (intOf iv).toNat)
  case atStart => exact ⟨0, 0, rfl, rfl, by omega, rfl, rfl⟩
  case round =>
    obtain ⟨i, m, rfl, rfl, hi, hM, rfl⟩ := hrel
    by_cases hlt : i < 8
    · obtain ⟨b, hbi⟩ : ∃ b, (bs s)[i]? = some b := ⟨(bs s)[i]'(by rw [bs_size]; omega), List.getElem?_eq_getElem _⟩
      have e2 : s[i]'(by omega) = b := by rw [bs_get s i (by omega)] at hbi; exact Option.some.inj hbi
      have hm7 : m < 72057594037927936 := by
        rw [hM.out]
        refine Nat.lt_of_lt_of_le (natL_lt _) ?_
        have hl : ((bs s).take i).length ≤ 7 := by rw [List.length_take]; omega
        exact Nat.le_trans (Nat.pow_le_pow_right (by decide) hl) (by decide)
      have hor := or_u64 m b.toNat hm7 b.toNat_lt
      have hw1 : IntKind.u64.wrap ((m : Int) * 256) = (m : Int) * 256 := by rw [IntKind.wrap_u64]; omega
      have hw2 : IntKind.u64.wrap (b.toNat : Int) = (b.toNat : Int) := by rw [IntKind.wrap_u64]; have := b.toNat_lt; omega
      have HM2 : Hid (m * 256 + b.toNat = natL ((bs s).take (i + 1))) := Lib.hid (by
        have e3 : (bs s).take (i + 1) = (bs s).take i ++ [b] := by rw [List.take_add_one, hbi]; rfl
        rw [e3, natL_snoc, hM.out])
      clear hbi hM
      go_wp2_with fail
      go_roundw
      case rel => exact ⟨i + 1, m * 256 + b.toNat, by go_num, by first | rfl | go_num, by omega, HM2.out, trivial⟩
      case measure => simp [intOf]; omega
    · obtain rfl : i = 8 := by omega
      go_wp2_with fail
      go_ret
      refine ⟨?_, rfl⟩
      have hv : m = natL ((bs s).take 8) := hM.out
      have hlt2 : m < 18446744073709551616 := by
        rw [hv]
        refine Nat.lt_of_lt_of_le (natL_lt _) ?_
        have hl : ((bs s).take 8).length ≤ 8 := by rw [List.length_take]; omega
        exact Nat.le_trans (Nat.pow_le_pow_right (by decide) hl) (by decide)
      have hs : wrap64 (m : Int) = signed m := by
        unfold signed
        simp only [wrap64]
        split <;> omega
      unfold numL
      rw [← hv, ← hs]
      rfl

end Go.Proofs.YtdifpemohdnolaaGreat
namespace Go.Proofs.YtdifpemohdnolaaGreat
open Go.RowKit VM

def OrCon (d : Nat) : Prop := ∀ (s t : ByteArray) (x y : V), wf d x = true → wf d y = true → bs s = enc x → bs t = enc y → s.size ≤ 1048576 → t.size ≤ 1048576 → ∀ w : World,
  Calls Tryz.prog 69 #[.string s, .string t] w fun e w' => e = .returned (.int .i64 (ord d x y)) ∧ Below w.heap.size w w'
theorem bs_injR {s t : ByteArray} (h : bs s = bs t) : s = t := by
  cases s; cases t
  congr 1
  exact Array.toList_inj.1 h
theorem ord_self {d : Nat} {x : V} (h : wf d x = true) : ord d x x = 0 := (ord_tot d).refl x h
theorem sgn_sign (a b : Int) : (if decide (a < b) = true then (-1 : Int) else if decide (b < a) = true then 1 else 0) = sgn a b := by
  unfold sgn
  simp only [decide_eq_true_eq]
theorem encs_mem {x : V} : ∀ {l : List V}, x ∈ l → (enc x).length ≤ (encs l).length := by
  intro l
  induction l with
  | nil => intro h; cases h
  | cons a l ih =>
    intro h
    have e : (encs (a :: l)).length = (enc a).length + (encs l).length := by show (enc a ++ encs l).length = _; rw [List.length_append]
    rcases List.mem_cons.1 h with rfl | h
    · omega
    · have := ih h; omega
theorem at1s {w : World} {A : Option Addr} {xs : List Value} (h : InC w A xs) {i : Nat} {u : Value} (hi : xs[i]? = some u) : ∃ b off, A = some ⟨b, off, none⟩ ∧ b < w.heap.size ∧ w.cell? ⟨b, off + i, none⟩ = some u := by
  rcases h with rfl | ⟨b, off, h1, h2, h3⟩
  · simp at hi
  · exact ⟨b, off, h1, h2, h3 i u hi⟩
theorem less_bool {s t : ByteArray} {d : Nat} {a b : UInt8} (hs : bs s = enc (.bool a)) (ht : bs t = enc (.bool b)) (hne : s ≠ t) :
    (Op.bytesLess s.toList t.toList = true ∧ ord (d + 1) (.bool a) (.bool b) = -1) ∨ (Op.bytesLess s.toList t.toList = false ∧ ord (d + 1) (.bool a) (.bool b) = 1) := by
  have hab : a ≠ b := by rintro rfl; exact hne (bs_injR (by rw [hs, ht]))
  have hn : a.toNat ≠ b.toNat := fun q => hab (UInt8.toNat_inj.1 q)
  have e : Op.bytesLess s.toList t.toList = decide (a.toNat < b.toNat) := by
    rw [ByteArray.toList_eq, ByteArray.toList_eq]
    show Op.bytesLess (bs s) (bs t) = _
    rw [hs, ht]
    show Op.bytesLess [2, a] [2, b] = _
    simp [Op.bytesLess, UInt8.lt_iff_toNat_lt]
  rw [e, ord_bool]
  unfold sgn
  by_cases h : a.toNat < b.toNat
  · left; exact ⟨decide_eq_true h, by rw [if_pos (by omega)]⟩
  · right; exact ⟨decide_eq_false h, by rw [if_neg (by omega), if_pos (by omega)]⟩
theorem less_name {s t : ByteArray} {d : Nat} {a b c f : UInt8} (hs : bs s = enc (.name a b)) (ht : bs t = enc (.name c f)) (hne : s ≠ t) :
    (Op.bytesLess s.toList t.toList = true ∧ ord (d + 1) (.name a b) (.name c f) = -1) ∨ (Op.bytesLess s.toList t.toList = false ∧ ord (d + 1) (.name a b) (.name c f) = 1) := by
  have hn : u16 a b ≠ u16 c f := by
    intro q
    obtain ⟨rfl, rfl⟩ := u16_inj q
    exact hne (bs_injR (by rw [hs, ht]))
  have e : Op.bytesLess s.toList t.toList = decide (u16 a b < u16 c f) := by
    rw [ByteArray.toList_eq, ByteArray.toList_eq]
    show Op.bytesLess (bs s) (bs t) = _
    rw [hs, ht]
    show Op.bytesLess [10, a, b] [10, c, f] = _
    have e1 : Op.bytesLess [10, a, b] [10, c, f] = (decide (a < c) || (a == c && decide (b < f))) := by simp [Op.bytesLess]
    rw [e1, Bool.eq_iff_iff]
    simp only [Bool.or_eq_true, Bool.and_eq_true, decide_eq_true_eq, beq_iff_eq, UInt8.lt_iff_toNat_lt, ← UInt8.toNat_inj]
    unfold u16
    have := b.toNat_lt
    have := f.toNat_lt
    omega
  rw [e, ord_name]
  unfold sgn
  by_cases h : u16 a b < u16 c f
  · left; exact ⟨decide_eq_true h, by rw [if_pos (by omega)]⟩
  · right; exact ⟨decide_eq_false h, by rw [if_neg (by omega), if_pos (by omega)]⟩

set_option linter.unusedSimpArgs false in
set_option maxRecDepth 100000 in
set_option maxHeartbeats 12800000 in
theorem or_up (d : Nat) (hd : d + 1 ≤ 32) (ih : OrCon d) : OrCon (d + 1) := by
  intro s t x y hx hy hs ht hs1 ht1 w
  have HIH := Lib.hid ih
  have HX := Lib.hid hx
  have HY := Lib.hid hy
  have HS := Lib.hid hs
  have HT := Lib.hid ht
  by_cases hxy : s = t
  · subst hxy
    have : x = y := enc_inj hx hy (by rw [← hs, ht])
    subst this
    rw [ord_self hx]
    have g : (s.toList == s.toList) = true := beq_self_eq_true _
    clear ih hx hy hs ht
    go_enter Tryz.func69, Tryz.ntmps69
    go_wp2_with fail
    go_ret
    exact ⟨rfl, Below.refl _ _⟩
  have gst : (s.toList == t.toList) = false := beq_eq_false_iff_ne.2 fun q => hxy (by
    rw [ByteArray.toList_eq, ByteArray.toList_eq] at q
    exact bs_injR q)
  obtain ⟨hs0, k0⟩ := enc_first (r := []) hx (by rw [hs, List.append_nil])
  obtain ⟨ht0, k1⟩ := enc_first (r := []) hy (by rw [ht, List.append_nil])
  have e1 : s[0] = x.kind := by rw [bs_get s 0 hs0] at k0; exact Option.some.inj k0
  have e2 : t[0] = y.kind := by rw [bs_get t 0 ht0] at k1; exact Option.some.inj k1
  have wk : wrap64 (x.kind.toNat : Int) = (x.kind.toNat : Int) := IntWalk.wrap64_in _ (by have := x.kind.toNat_lt; omega)
  have zs := bs_size s
  have zt := bs_size t
  rw [hs] at zs
  rw [ht] at zt
  clear ih hx hy hs ht k0 k1
  by_cases hk : x.kind = y.kind
  · rcases same_kind HX.out HY.out hk with ⟨l, m, rfl, rfl⟩ | ⟨a, b, rfl, rfl⟩ | ⟨a, b, c, f, rfl, rfl⟩ | ⟨k, l, m, rfl, rfl⟩
    · have e3 : s[0] = 1 := e1
      have e4 : t[0] = 1 := e2
      have hl := wf_int HX.out
      have hm := wf_int HY.out
      have hz1 : 8 ≤ (s.extract 1 s.size).size ∧ (s.extract 1 s.size).size ≤ 1048576 := by
        rw [← bs_size, bs_extract, HS.out]
        show 8 ≤ l.length ∧ l.length ≤ 1048576
        omega
      have hz2 : 8 ≤ (t.extract 1 t.size).size ∧ (t.extract 1 t.size).size ≤ 1048576 := by
        rw [← bs_size, bs_extract, HT.out]
        show 8 ≤ m.length ∧ m.length ≤ 1048576
        omega
      have HN1 := Lib.hid (fun w => rnumber_any (s.extract 1 s.size) hz1.1 hz1.2 w)
      have HN2 := Lib.hid (fun w => rnumber_any (t.extract 1 t.size) hz2.1 hz2.2 w)
      have q1 : (bs (s.extract 1 s.size)).take 8 = l := by
        rw [bs_extract, HS.out]
        show l.take 8 = l
        exact List.take_of_length_le (by omega)
      have q2 : (bs (t.extract 1 t.size)).take 8 = m := by
        rw [bs_extract, HT.out]
        show m.take 8 = m
        exact List.take_of_length_le (by omega)
      rw [q1] at HN1
      rw [q2] at HN2
      have HO : Hid (ord (d + 1) (.int l) (.int m) = sgn (numL l) (numL m)) := Lib.hid (ord_int d l m)
      have hs9 : 1 ≤ s.size := by omega
      have ht9 : 1 ≤ t.size := by omega
      clear e1 e2 wk hk zs zt hl hm hz1 hz2 q1 q2 hxy
      go_enter Tryz.func69, Tryz.ntmps69
      go_wp2_with fail
      go_quiet (fail)
      have HBq : Hid (Below w.heap.size w (w.drewN nq)) := below_drewN (Below.refl _ _) nq
      generalize w.drewN nq = wq at *
      go_wp2_with fail
      have HBd : Hid (Below w.heap.size w wq.drew) := below_drew HBq.out
      refine wp_region_noPanic ?_
      refine wp_region_held_drew (S := fun W => True) (by kernel_rfl) trivial (fun _ => ?_)
      generalize wq.drew = wd at *
      try simp only [Act.put, List.setIfInBounds_toArray, List.set_cons_zero, List.set_cons_succ]
      refine wpAnyH_take (i := 0) (oi := { dst := some 36, op := Op.move (Operand.tmp 0), type := 23, pos := "value.go:264", after := #[], guard := none }) (v := ?_) rfl (by kernel_rfl) (by kernel_rfl) (by kernel_rfl) (fun _ _ _ h => h) (Or.inl ⟨by rfl, ?_⟩) trivial ?_
      rotate_left 1
      · intro w hSw
        try dsimp only at hSw
        go_simp
        first
          | done
          | with_reducible rfl
          | rw [if_neg (by omega)]
      try simp only [Act.put, List.setIfInBounds_toArray, List.set_cons_zero, List.set_cons_succ]
      refine wpAnyH_take (i := 1) (oi := { dst := some 37, op := Op.slice 23 (Operand.tmp 36) (some (Operand.const (Value.int IntKind.i64 1))) none none, type := 23, pos := "value.go:264", after := #[{ on := 0, ground := Ground.data }], guard := none }) (v := .string (s.extract 1 s.size)) rfl (by kernel_rfl) (by kernel_rfl) (by kernel_rfl) (fun _ _ _ h => h) (Or.inl ⟨by rfl, ?_⟩) trivial ?_
      · intro w hSw
        go_simp
        first | done | (intro hc; omega) | rw [if_pos (by omega)]
      try simp only [Act.put, List.setIfInBounds_toArray, List.set_cons_zero, List.set_cons_succ]
      refine wpAnyH_take (i := 3) (oi := { dst := some 39, op := Op.move (Operand.tmp 1), type := 23, pos := "value.go:264", after := #[], guard := none }) (v := ?_) rfl (by kernel_rfl) (by kernel_rfl) (by kernel_rfl) (fun _ _ _ h => h) (Or.inl ⟨by rfl, ?_⟩) trivial ?_
      rotate_left 1
      · intro w hSw
        try dsimp only at hSw
        go_simp
        first
          | done
          | with_reducible rfl
          | rw [if_neg (by omega)]
      try simp only [Act.put, List.setIfInBounds_toArray, List.set_cons_zero, List.set_cons_succ]
      refine wpAnyH_take (i := 4) (oi := { dst := some 40, op := Op.slice 23 (Operand.tmp 39) (some (Operand.const (Value.int IntKind.i64 1))) none none, type := 23, pos := "value.go:264", after := #[{ on := 3, ground := Ground.data }], guard := none }) (v := .string (t.extract 1 t.size)) rfl (by kernel_rfl) (by kernel_rfl) (by kernel_rfl) (fun _ _ _ h => h) (Or.inl ⟨by rfl, ?_⟩) trivial ?_
      · intro w hSw
        go_simp
        first | done | (intro hc; omega) | rw [if_pos (by omega)]
      try simp only [Act.put, List.setIfInBounds_toArray, List.set_cons_zero, List.set_cons_succ]
      refine wpAnyH_ready (rs := [2]) (by kernel_rfl) (by simp) ?_
      refine AllReadyH.cons (o := { dst := some 38, op := Op.call { callee := Callee.value (Operand.func 85), args := #[Operand.tmp 37], argTypes := #[9] }, type := 2, pos := "value.go:264", after := #[{ on := 1, ground := Ground.data }], guard := none }) rfl (fun K hK => ?_) AllReadyH.nil
      go_simp
      go_at_call 85
      refine (HN1.out wd).mono ?_
      rintro e w501 ⟨rfl, rfl⟩
      try dsimp only
      refine hK.out _ _ trivial (fun _ => ?_)
      clear hK K
      try simp only [Act.put, List.setIfInBounds_toArray, List.set_cons_zero, List.set_cons_succ]
      refine wpAnyH_ready (rs := [5]) (by kernel_rfl) (by simp) ?_
      refine AllReadyH.cons (o := { dst := some 41, op := Op.call { callee := Callee.value (Operand.func 85), args := #[Operand.tmp 40], argTypes := #[9] }, type := 2, pos := "value.go:264", after := #[{ on := 4, ground := Ground.data }, { on := 2, ground := Ground.chain }], guard := none }) rfl (fun K hK => ?_) AllReadyH.nil
      go_simp
      go_at_call 85
      refine (HN2.out wd).mono ?_
      rintro e w502 ⟨rfl, rfl⟩
      try dsimp only
      refine hK.out _ _ trivial (fun _ => ?_)
      clear hK K
      try simp only [Act.put, List.setIfInBounds_toArray, List.set_cons_zero, List.set_cons_succ]
      refine wpAnyH_take (i := 6) (oi := { dst := some 5, op := Op.assign (Operand.tmp 38), type := 2, pos := "value.go:264", after := #[{ on := 2, ground := Ground.data }, { on := 5, ground := Ground.chain }, { on := 0, ground := Ground.phase }, { on := 1, ground := Ground.phase }, { on := 2, ground := Ground.phase }, { on := 3, ground := Ground.textOnly Departure.lateStores }, { on := 4, ground := Ground.textOnly Departure.lateStoresUnsure }, { on := 5, ground := Ground.textOnly Departure.lateStoresUnsure }], guard := none }) (v := ?_) rfl (by kernel_rfl) (by kernel_rfl) (by kernel_rfl) (fun _ _ _ h => h) (Or.inl ⟨by rfl, ?_⟩) trivial ?_
      rotate_left 1
      · intro w hSw
        try dsimp only at hSw
        go_simp
        first
          | done
          | with_reducible rfl
          | rw [if_neg (by omega)]
      try simp only [Act.put, List.setIfInBounds_toArray, List.set_cons_zero, List.set_cons_succ]
      refine wpAnyH_take (i := 7) (oi := { dst := some 6, op := Op.assign (Operand.tmp 41), type := 2, pos := "value.go:264", after := #[{ on := 5, ground := Ground.data }, { on := 6, ground := Ground.chain }, { on := 0, ground := Ground.phase }, { on := 1, ground := Ground.phase }, { on := 2, ground := Ground.phase }, { on := 3, ground := Ground.phase }, { on := 4, ground := Ground.phase }, { on := 5, ground := Ground.phase }, { on := 6, ground := Ground.phase }], guard := none }) (v := ?_) rfl (by kernel_rfl) (by kernel_rfl) (by kernel_rfl) (fun _ _ _ h => h) (Or.inl ⟨by rfl, ?_⟩) trivial ?_
      rotate_left 1
      · intro w hSw
        try dsimp only at hSw
        go_simp
        first
          | done
          | with_reducible rfl
          | rw [if_neg (by omega)]
      try simp only [Act.put, List.setIfInBounds_toArray, List.set_cons_zero, List.set_cons_succ]
      refine wpAnyH_done (by kernel_rfl) ?_ _
      refine NoPanic.normal ?_
      go_wp2_with fail
      refine (rsign_any _ _ _).mono ?_
      rintro e w4 ⟨rfl, rfl⟩
      go_wp2_with fail
      all_goals
        go_ret
        exact ⟨by rw [HO.out]; exact ret_i (by unfold sgn; repeat' split
                                               all_goals omega), unhide HBd⟩
    · have e3 : s[0] = 2 := e1
      have e4 : t[0] = 2 := e2
      rcases less_bool (d := d) HS.out HT.out hxy with ⟨gl, go⟩ | ⟨gl, go⟩
      all_goals
        rw [go]
        clear e1 e2 wk hk zs zt hxy go
        go_enter Tryz.func69, Tryz.ntmps69
        go_wp2_with fail
        go_quiet (fail)
        go_wp2_with fail
        refine (rsign_any _ _ _).mono ?_
        rintro e w4 ⟨rfl, rfl⟩
        go_wp2_with fail
        go_ret
        exact ⟨rfl, below_drewN (Below.refl _ _) nq⟩
    · have e3 : s[0] = 10 := e1
      have e4 : t[0] = 10 := e2
      rcases less_name (d := d) HS.out HT.out hxy with ⟨gl, go⟩ | ⟨gl, go⟩
      all_goals
        rw [go]
        clear e1 e2 wk hk zs zt hxy go
        go_enter Tryz.func69, Tryz.ntmps69
        go_wp2_with fail
        go_quiet (fail)
        go_wp2_with fail
        refine (rsign_any _ _ _).mono ?_
        rintro e w4 ⟨rfl, rfl⟩
        go_wp2_with fail
        go_ret
        exact ⟨rfl, below_drewN (Below.refl _ _) nq⟩
    · have hc : isComp k = true := by
        have := HX.out
        unfold wf at this
        simp only [Bool.and_eq_true, decide_eq_true_eq] at this
        exact this.1
      have hl16 : l.length < 65536 := by
        have := HX.out
        unfold wf at this
        simp only [Bool.and_eq_true, decide_eq_true_eq] at this
        exact this.2.1
      have hk39 : 3 ≤ k.toNat ∧ k.toNat ≤ 9 := by unfold isComp at hc; exact of_decide_eq_true hc
      have e3 : s[0] = k := e1
      have e4 : t[0] = k := e2
      have n1 : ((k.toNat : Int) == 1) = false := beq_eq_false_iff_ne.2 (by omega)
      have n2 : ((k.toNat : Int) == 2) = false := beq_eq_false_iff_ne.2 (by omega)
      have n3 : ((k.toNat : Int) == 10) = false := beq_eq_false_iff_ne.2 (by omega)
      have wk2 : wrap64 (k.toNat : Int) = (k.toNat : Int) := wk
      have d1 : decC false 32 (bs s) = some (.comp k l, []) := by
        have := decC_of false 32 (.comp k l) [] (wf_le hd HX.out)
        rw [List.append_nil] at this
        rw [HS.out]; exact this
      have d2 : decC false 32 (bs t) = some (.comp k m, []) := by
        have := decC_of false 32 (.comp k m) [] (wf_le hd HY.out)
        rw [List.append_nil] at this
        rw [HT.out]; exact this
      have HW1 := Lib.hid (fun w => walk_plain 32 (by decide) s w hs1)
      have HW2 := Lib.hid (fun w => walk_plain 32 (by decide) t w ht1)
      rw [d1] at HW1
      rw [d2] at HW2
      have HO0 : Hid (ord (d + 1) (.comp k l) (.comp k m) = ord.ordL (ord d) (l.drop 0) (m.drop 0)) := Lib.hid (ord_comp d k l m)
      have HWL := Lib.hid (wf_parts HX.out)
      have HWM := Lib.hid (wf_parts HY.out)
      have hzl : ∀ x ∈ l, (enc x).length ≤ 1048576 := fun x hx => by
        have h1 := encs_mem hx
        have h2 : (enc (.comp k l)).length = (encs l).length + 3 := rfl
        omega
      have hzm : ∀ x ∈ m, (enc x).length ≤ 1048576 := fun x hx => by
        have h1 := encs_mem hx
        have h2 : (enc (.comp k m)).length = (encs m).length + 3 := rfl
        omega
      have HZL := Lib.hid hzl
      have HZM := Lib.hid hzm
      clear e1 e2 wk hk zs zt hxy d1 d2 hc hzl hzm
      go_enter Tryz.func69, Tryz.ntmps69
      go_wp2_with fail
      go_quiet (fail)
      have HBq : Hid (Below w.heap.size w (w.drewN nq)) := below_drewN (Below.refl _ _) nq
      generalize w.drewN nq = wq at *
      go_wp2_with fail
      refine (HW1.out wq).mono ?_
      rintro e w3 hW3
      obtain ⟨A1, c1, ps1, dd1, rfl, -, hown1, hp1, hb3⟩ := hW3
      simp only [PartsOf] at hp1
      have HB3 := hide ((unhide HBq).trans (hb3.mono (unhide HBq).size))
      have HR1 := hide (InC.own hown1)
      have HP1 := Lib.hid hp1
      have l1 : ps1.length = l.length := by have := congrArg List.length hp1; rwa [List.length_map, List.length_map] at this
      clear hb3 hown1 hp1 HBq
      go_wp2_with fail
      refine (HW2.out w3).mono ?_
      rintro e w4 hW4
      obtain ⟨A2, c2, ps2, dd2, rfl, -, hown2, hp2, hb4⟩ := hW4
      simp only [PartsOf] at hp2
      have HB4 := hide ((unhide HB3).trans (hb4.mono (unhide HB3).size))
      have HR2 := hide (InC.own hown2)
      have HR3 := hide ((unhide HR1).below hb4)
      have HP2 := Lib.hid hp2
      have l2 : ps2.length = m.length := by have := congrArg List.length hp2; rwa [List.length_map, List.length_map] at this
      clear hb4 hown2 hp2 HB3 HR1
      go_wp2_with fail
      go_loopw [13] (fun iv wr => ∃ j : Nat, iv = .int .i64 j ∧ j ≤ l.length ∧ j ≤ m.length ∧ Hid (InC wr A1 (ps1.map Value.string)) ∧ Hid (InC wr A2 (ps2.map Value.string)) ∧ Hid (ord (d + 1) (.comp k l) (.comp k m) = ord.ordL (ord d) (l.drop j) (m.drop j)) ∧ Hid (Below w.heap.size w wr)) (fun iv _ => l.length - (intOf iv).toNat)
      case atStart => exact ⟨0, rfl, by omega, by omega, unhide HR3, unhide HR2, HO0.out, unhide HB4⟩
      case round =>
        obtain ⟨j, rfl, hi1, hi2, hR1, hR2, hO, hB⟩ := hrel
        by_cases hil : j < l.length ∧ j < m.length
        · obtain ⟨il, im⟩ := hil
          obtain ⟨x, hx⟩ : ∃ x, l[j]? = some x := ⟨l[j], List.getElem?_eq_getElem il⟩
          obtain ⟨y, hy⟩ : ∃ y, m[j]? = some y := ⟨m[j], List.getElem?_eq_getElem im⟩
          obtain ⟨u, hu⟩ : ∃ u, ps1[j]? = some u := ⟨ps1[j], List.getElem?_eq_getElem (by omega)⟩
          obtain ⟨v, hv⟩ : ∃ v, ps2[j]? = some v := ⟨ps2[j], List.getElem?_eq_getElem (by omega)⟩
          have hdx : l.drop j = x :: l.drop (j + 1) := by rw [List.drop_eq_getElem_cons il]; rw [List.getElem?_eq_getElem il] at hx; rw [Option.some.inj hx]
          have hdy : m.drop j = y :: m.drop (j + 1) := by rw [List.drop_eq_getElem_cons im]; rw [List.getElem?_eq_getElem im] at hy; rw [Option.some.inj hy]
          have hwx : wf d x = true := List.all_eq_true.1 HWL.out x (List.mem_of_getElem? hx)
          have hwy : wf d y = true := List.all_eq_true.1 HWM.out y (List.mem_of_getElem? hy)
          have hux : bs u = enc x := by
            have := congrArg (·[j]?) HP1.out
            simp only [List.getElem?_map, hu, hx, Option.map_some, Option.some.injEq] at this
            exact this
          have hvy : bs v = enc y := by
            have := congrArg (·[j]?) HP2.out
            simp only [List.getElem?_map, hv, hy, Option.map_some, Option.some.injEq] at this
            exact this
          have hzu : u.size ≤ 1048576 := by rw [← bs_size, hux]; exact HZL.out x (List.mem_of_getElem? hx)
          have hzv : v.size ≤ 1048576 := by rw [← bs_size, hvy]; exact HZM.out y (List.mem_of_getElem? hy)
          have HC := Lib.hid (fun w => HIH.out u v x y hwx hwy hux hvy hzu hzv w)
          obtain ⟨b5, o5, hA1, hb5, hc5⟩ := at1s hR1.out (i := j) (u := .string u) (by rw [List.getElem?_map, hu]; rfl)
          obtain ⟨b6, o6, hA2, hb6, hc6⟩ := at1s hR2.out (i := j) (u := .string v) (by rw [List.getElem?_map, hv]; rfl)
          have HO1 : Hid (ord (d + 1) (.comp k l) (.comp k m) = if ord d x y ≠ 0 then ord d x y else ord.ordL (ord d) (l.drop (j + 1)) (m.drop (j + 1))) := Lib.hid (by
            rw [hO.out, hdx, hdy]
            conv => lhs; unfold ord.ordL)
          subst hA1
          subst hA2
          clear hx hy hu hv hdx hdy hwx hwy hux hvy hO
          go_wp2_with fail
          have fd0 : Hid (wr.drew.cell? ⟨b5, o5 + j, none⟩ = some (.string u)) := hc5
          have fd1 : Hid (wr.drew.cell? ⟨b6, o6 + j, none⟩ = some (.string v)) := hc6
          have HBd : Hid (Below w.heap.size w wr.drew) := below_drew hB.out
          have HRd : Hid (InC wr.drew (some ⟨b5, o5, none⟩) (ps1.map Value.string)) := hR1.out.drew
          have HSd : Hid (InC wr.drew (some ⟨b6, o6, none⟩) (ps2.map Value.string)) := hR2.out.drew
          have hb5d : b5 < wr.drew.heap.size := hb5
          have hb6d : b6 < wr.drew.heap.size := hb6
          refine wp_region_noPanic ?_
          refine wp_region_held_drew (S := fun W => W.cell? ⟨b5, o5 + j, none⟩ = some (.string u) ∧ W.cell? ⟨b6, o6 + j, none⟩ = some (.string v)) (by kernel_rfl) ⟨fd0, fd1⟩ (fun _ => ?_)
          generalize wr.drew = wd at *
          try simp only [Act.put, List.setIfInBounds_toArray, List.set_cons_zero, List.set_cons_succ]
          refine wpAnyH_take (i := 0) (oi := { dst := some 91, op := Op.move (Operand.tmp 8), type := 24, pos := "value.go:272", after := #[], guard := none }) (v := ?_) rfl (by kernel_rfl) (by kernel_rfl) (by kernel_rfl) (fun _ _ _ h => h) (Or.inl ⟨by rfl, ?_⟩) ⟨fd0, fd1⟩ ?_
          rotate_left 1
          · intro w hSw
            obtain ⟨hSw0, hSw1⟩ := hSw
            go_simp
            first
              | done
              | with_reducible rfl
              | rw [if_neg (by omega)]
          try simp only [Act.put, List.setIfInBounds_toArray, List.set_cons_zero, List.set_cons_succ]
          refine wpAnyH_take (i := 1) (oi := { dst := some 92, op := Op.move (Operand.tmp 13), type := 3, pos := "value.go:272", after := #[], guard := none }) (v := ?_) rfl (by kernel_rfl) (by kernel_rfl) (by kernel_rfl) (fun _ _ _ h => h) (Or.inl ⟨by rfl, ?_⟩) ⟨fd0, fd1⟩ ?_
          rotate_left 1
          · intro w hSw
            obtain ⟨hSw0, hSw1⟩ := hSw
            go_simp
            first
              | done
              | with_reducible rfl
              | rw [if_neg (by omega)]
          try simp only [Act.put, List.setIfInBounds_toArray, List.set_cons_zero, List.set_cons_succ]
          refine wpAnyH_take (i := 2) (oi := { dst := some 93, op := Op.indexAddr 24 (Operand.tmp 91) (Operand.tmp 92), type := 0, pos := "value.go:272", after := #[{ on := 0, ground := Ground.data }, { on := 1, ground := Ground.data }], guard := none }) (v := ?_) rfl (by kernel_rfl) (by kernel_rfl) (by kernel_rfl) (fun _ _ _ h => h) (Or.inl ⟨by rfl, ?_⟩) ⟨fd0, fd1⟩ ?_
          rotate_left 1
          · intro w hSw
            obtain ⟨hSw0, hSw1⟩ := hSw
            go_simp
            first
              | done
              | with_reducible rfl
              | rw [if_neg (by omega)]
          try simp only [Act.put, List.setIfInBounds_toArray, List.set_cons_zero, List.set_cons_succ]
          refine wpAnyH_take (i := 3) (oi := { dst := some 94, op := Op.load 23 (Operand.tmp 93), type := 23, pos := "value.go:272", after := #[{ on := 2, ground := Ground.data }], guard := none }) (v := ?_) rfl (by kernel_rfl) (by kernel_rfl) (by kernel_rfl) (fun _ _ _ h => h) (Or.inl ⟨by rfl, ?_⟩) ⟨fd0, fd1⟩ ?_
          rotate_left 1
          · intro w hSw
            obtain ⟨hSw0, hSw1⟩ := hSw
            go_simp
            first
              | done
              | with_reducible rfl
              | rw [if_neg (by omega)]
          try simp only [Act.put, List.setIfInBounds_toArray, List.set_cons_zero, List.set_cons_succ]
          refine wpAnyH_take (i := 4) (oi := { dst := some 95, op := Op.move (Operand.tmp 11), type := 24, pos := "value.go:272", after := #[], guard := none }) (v := ?_) rfl (by kernel_rfl) (by kernel_rfl) (by kernel_rfl) (fun _ _ _ h => h) (Or.inl ⟨by rfl, ?_⟩) ⟨fd0, fd1⟩ ?_
          rotate_left 1
          · intro w hSw
            obtain ⟨hSw0, hSw1⟩ := hSw
            go_simp
            first
              | done
              | with_reducible rfl
              | rw [if_neg (by omega)]
          try simp only [Act.put, List.setIfInBounds_toArray, List.set_cons_zero, List.set_cons_succ]
          refine wpAnyH_take (i := 5) (oi := { dst := some 96, op := Op.move (Operand.tmp 13), type := 3, pos := "value.go:272", after := #[], guard := none }) (v := ?_) rfl (by kernel_rfl) (by kernel_rfl) (by kernel_rfl) (fun _ _ _ h => h) (Or.inl ⟨by rfl, ?_⟩) ⟨fd0, fd1⟩ ?_
          rotate_left 1
          · intro w hSw
            obtain ⟨hSw0, hSw1⟩ := hSw
            go_simp
            first
              | done
              | with_reducible rfl
              | rw [if_neg (by omega)]
          try simp only [Act.put, List.setIfInBounds_toArray, List.set_cons_zero, List.set_cons_succ]
          refine wpAnyH_take (i := 6) (oi := { dst := some 97, op := Op.indexAddr 24 (Operand.tmp 95) (Operand.tmp 96), type := 0, pos := "value.go:272", after := #[{ on := 4, ground := Ground.data }, { on := 5, ground := Ground.data }], guard := none }) (v := ?_) rfl (by kernel_rfl) (by kernel_rfl) (by kernel_rfl) (fun _ _ _ h => h) (Or.inl ⟨by rfl, ?_⟩) ⟨fd0, fd1⟩ ?_
          rotate_left 1
          · intro w hSw
            obtain ⟨hSw0, hSw1⟩ := hSw
            go_simp
            first
              | done
              | with_reducible rfl
              | rw [if_neg (by omega)]
          try simp only [Act.put, List.setIfInBounds_toArray, List.set_cons_zero, List.set_cons_succ]
          refine wpAnyH_take (i := 7) (oi := { dst := some 98, op := Op.load 23 (Operand.tmp 97), type := 23, pos := "value.go:272", after := #[{ on := 6, ground := Ground.data }], guard := none }) (v := ?_) rfl (by kernel_rfl) (by kernel_rfl) (by kernel_rfl) (fun _ _ _ h => h) (Or.inl ⟨by rfl, ?_⟩) ⟨fd0, fd1⟩ ?_
          rotate_left 1
          · intro w hSw
            obtain ⟨hSw0, hSw1⟩ := hSw
            go_simp
            first
              | done
              | with_reducible rfl
              | rw [if_neg (by omega)]
          try simp only [Act.put, List.setIfInBounds_toArray, List.set_cons_zero, List.set_cons_succ]
          refine wpAnyH_ready (rs := [8]) (by kernel_rfl) (by simp) ?_
          refine AllReadyH.cons (o := { dst := some 99, op := Op.call { callee := Callee.value (Operand.func 69), args := #[Operand.tmp 94, Operand.tmp 98], argTypes := #[23, 23] }, type := 3, pos := "value.go:272", after := #[{ on := 3, ground := Ground.data }, { on := 7, ground := Ground.data }], guard := none }) rfl (fun K hK => ?_) AllReadyH.nil
          go_simp
          go_at_call 69
          refine (HC.out wd).mono ?_
          rintro e w503 ⟨rfl, hb⟩
          have HB9 := hide ((unhide HBd).trans (hb.mono (unhide HBd).size))
          have HR8 := hide ((unhide HRd).below hb)
          have HR9 := hide ((unhide HSd).below hb)
          have e5 := (hb.cell (p := ⟨b5, o5 + j, none⟩) hb5d).trans (unhide fd0)
          have e6 := (hb.cell (p := ⟨b6, o6 + j, none⟩) hb6d).trans (unhide fd1)
          clear hb HBd HRd HSd
          try dsimp only
          refine hK.out _ _ ⟨e5, e6⟩ (fun _ => ?_)
          clear hK K
          try simp only [Act.put, List.setIfInBounds_toArray, List.set_cons_zero, List.set_cons_succ]
          refine wpAnyH_take (i := 9) (oi := { dst := some 14, op := Op.assign (Operand.tmp 99), type := 3, pos := "value.go:272", after := #[{ on := 8, ground := Ground.data }, { on := 8, ground := Ground.chain }, { on := 0, ground := Ground.phase }, { on := 1, ground := Ground.phase }, { on := 2, ground := Ground.phase }, { on := 3, ground := Ground.phase }, { on := 4, ground := Ground.phase }, { on := 5, ground := Ground.phase }, { on := 6, ground := Ground.phase }, { on := 7, ground := Ground.phase }, { on := 8, ground := Ground.phase }], guard := none }) (v := ?_) rfl (by kernel_rfl) (by kernel_rfl) (by kernel_rfl) (fun _ _ _ h => h) (Or.inl ⟨by rfl, ?_⟩) ⟨e5, e6⟩ ?_
          rotate_left 1
          · intro w hSw
            obtain ⟨hSw0, hSw1⟩ := hSw
            go_simp
            first
              | done
              | with_reducible rfl
              | rw [if_neg (by omega)]
          try simp only [Act.put, List.setIfInBounds_toArray, List.set_cons_zero, List.set_cons_succ]
          refine wpAnyH_done (by kernel_rfl) ?_ _
          refine NoPanic.normal ?_
          clear HC hb5d hb6d fd0 fd1 hb5 hb6 hc5 hc6 hR1 hR2 hB
          by_cases hz : ord d x y = 0
          · have HO2 : Hid (ord (d + 1) (.comp k l) (.comp k m) = ord.ordL (ord d) (l.drop (j + 1)) (m.drop (j + 1))) := Lib.hid (by rw [HO1.out, if_neg (by simpa using hz)])
            rw [hz]
            clear HO1 hz
            go_wp2_with fail
            go_roundw
            case rel => exact ⟨j + 1, by go_num, by omega, by omega, unhide HR8, unhide HR9, HO2.out, unhide HB9⟩
            case measure => simp [intOf]; omega
          · have g1 : (ord d x y == 0) = false := beq_eq_false_iff_ne.2 hz
            have HO2 : Hid (ord (d + 1) (.comp k l) (.comp k m) = ord d x y) := Lib.hid (by rw [HO1.out, if_pos hz])
            clear hz HO1
            go_wp2_with fail
            go_ret
            exact ⟨by rw [HO2.out]; rfl, unhide HB9⟩
        · have hend : l.drop j = [] ∨ m.drop j = [] := by
            by_cases q : j < l.length
            · exact .inr (List.drop_eq_nil_of_le (by omega))
            · exact .inl (List.drop_eq_nil_of_le (by omega))
          have HOE : Hid (ord (d + 1) (.comp k l) (.comp k m) = sgn (l.length : Nat) (m.length : Nat)) := Lib.hid (by rw [hO.out, ordL_end _ _ _ hend, sgn_drop l m j hi1 hi2])
          have hne : ¬ (j < l.length ∧ j < m.length) := hil
          clear hend hO
          go_wp2_with fail
          all_goals
            refine (rsign_any _ _ _).mono ?_
            rintro e w7 ⟨rfl, rfl⟩
            go_wp2_with fail
          all_goals
            go_ret
            exact ⟨by rw [HOE.out]; exact ret_i (by unfold sgn; repeat' split
                                                    all_goals omega), hB.out⟩
  · have hkn : ((x.kind.toNat : Int) == (y.kind.toNat : Int)) = false := beq_eq_false_iff_ne.2 (kind_ne hk)
    have HO : Hid (ord (d + 1) x y = sgn (x.kind.toNat : Int) (y.kind.toNat : Int)) := Lib.hid (ord_kind hk)
    have HKN := Lib.hid (kind_ne hk)
    clear hk zs zt hxy
    go_enter Tryz.func69, Tryz.ntmps69
    go_wp2_with fail
    go_quiet (fail)
    have HBq : Hid (Below w.heap.size w (w.drewN nq)) := below_drewN (Below.refl _ _) nq
    generalize w.drewN nq = wq at *
    go_wp2_with fail
    have HBd : Hid (Below w.heap.size w wq.drew) := below_drew HBq.out
    refine wp_region_noPanic ?_
    refine wp_region_held_drew (S := fun W => True) (by kernel_rfl) trivial (fun _ => ?_)
    generalize wq.drew = wd at *
    try simp only [Act.put, List.setIfInBounds_toArray, List.set_cons_zero, List.set_cons_succ]
    refine wpAnyH_take (i := 0) (oi := { dst := some 25, op := Op.move (Operand.tmp 0), type := 23, pos := "value.go:262", after := #[], guard := none }) (v := ?_) rfl (by kernel_rfl) (by kernel_rfl) (by kernel_rfl) (fun _ _ _ h => h) (Or.inl ⟨by rfl, ?_⟩) trivial ?_
    rotate_left 1
    · intro w hSw
      try dsimp only at hSw
      go_simp
      first
        | done
        | with_reducible rfl
        | rw [if_neg (by omega)]
    try simp only [Act.put, List.setIfInBounds_toArray, List.set_cons_zero, List.set_cons_succ]
    refine wpAnyH_take (i := 1) (oi := { dst := some 26, op := Op.index 23 (Operand.tmp 25) (Operand.const (Value.int IntKind.i64 0)), type := 5, pos := "value.go:262", after := #[{ on := 0, ground := Ground.data }], guard := none }) (v := ?_) rfl (by kernel_rfl) (by kernel_rfl) (by kernel_rfl) (fun _ _ _ h => h) (Or.inl ⟨by rfl, ?_⟩) trivial ?_
    rotate_left 1
    · intro w hSw
      try dsimp only at hSw
      go_simp
      first
        | done
        | with_reducible rfl
        | rw [if_neg (by omega)]
    try simp only [Act.put, List.setIfInBounds_toArray, List.set_cons_zero, List.set_cons_succ]
    refine wpAnyH_take (i := 2) (oi := { dst := some 27, op := Op.move (Operand.tmp 1), type := 23, pos := "value.go:262", after := #[], guard := none }) (v := ?_) rfl (by kernel_rfl) (by kernel_rfl) (by kernel_rfl) (fun _ _ _ h => h) (Or.inl ⟨by rfl, ?_⟩) trivial ?_
    rotate_left 1
    · intro w hSw
      try dsimp only at hSw
      go_simp
      first
        | done
        | with_reducible rfl
        | rw [if_neg (by omega)]
    try simp only [Act.put, List.setIfInBounds_toArray, List.set_cons_zero, List.set_cons_succ]
    refine wpAnyH_take (i := 3) (oi := { dst := some 28, op := Op.index 23 (Operand.tmp 27) (Operand.const (Value.int IntKind.i64 0)), type := 5, pos := "value.go:262", after := #[{ on := 2, ground := Ground.data }], guard := none }) (v := ?_) rfl (by kernel_rfl) (by kernel_rfl) (by kernel_rfl) (fun _ _ _ h => h) (Or.inl ⟨by rfl, ?_⟩) trivial ?_
    rotate_left 1
    · intro w hSw
      try dsimp only at hSw
      go_simp
      first
        | done
        | with_reducible rfl
        | rw [if_neg (by omega)]
    try simp only [Act.put, List.setIfInBounds_toArray, List.set_cons_zero, List.set_cons_succ]
    refine wpAnyH_take (i := 4) (oi := { dst := some 29, op := Op.binOp BinOp.lss 5 (Operand.tmp 26) (Operand.tmp 28) 5, type := 4, pos := "value.go:262", after := #[{ on := 1, ground := Ground.data }, { on := 3, ground := Ground.data }], guard := none }) (v := ?_) rfl (by kernel_rfl) (by kernel_rfl) (by kernel_rfl) (fun _ _ _ h => h) (Or.inl ⟨by rfl, ?_⟩) trivial ?_
    rotate_left 1
    · intro w hSw
      try dsimp only at hSw
      go_simp
      first
        | done
        | with_reducible rfl
        | rw [if_neg (by omega)]
    try simp only [Act.put, List.setIfInBounds_toArray, List.set_cons_zero, List.set_cons_succ]
    refine wpAnyH_ready (rs := [5]) (by kernel_rfl) (by simp) ?_
    refine AllReadyH.cons (o := { dst := some 30, op := Op.call { callee := Callee.value (Operand.func 70), args := #[Operand.tmp 29, Operand.const (Value.bool true)], argTypes := #[4, 4] }, type := 3, pos := "value.go:262", after := #[{ on := 4, ground := Ground.data }], guard := none }) rfl (fun K hK => ?_) AllReadyH.nil
    go_simp
    go_at_call 70
    refine (rsign_any _ _ wd).mono ?_
    rintro e w504 ⟨rfl, rfl⟩
    try dsimp only
    refine hK.out _ _ trivial (fun _ => ?_)
    clear hK K
    try simp only [Act.put, List.setIfInBounds_toArray, List.set_cons_zero, List.set_cons_succ]
    refine wpAnyH_take (i := 6) (oi := { dst := some 4, op := Op.assign (Operand.tmp 30), type := 3, pos := "value.go:262", after := #[{ on := 5, ground := Ground.data }, { on := 5, ground := Ground.chain }, { on := 0, ground := Ground.phase }, { on := 1, ground := Ground.phase }, { on := 2, ground := Ground.phase }, { on := 3, ground := Ground.phase }, { on := 4, ground := Ground.phase }, { on := 5, ground := Ground.phase }], guard := none }) (v := ?_) rfl (by kernel_rfl) (by kernel_rfl) (by kernel_rfl) (fun _ _ _ h => h) (Or.inl ⟨by rfl, ?_⟩) trivial ?_
    rotate_left 1
    · intro w hSw
      try dsimp only at hSw
      go_simp
      first
        | done
        | with_reducible rfl
        | rw [if_neg (by omega)]
    try simp only [Act.put, List.setIfInBounds_toArray, List.set_cons_zero, List.set_cons_succ]
    refine wpAnyH_done (by kernel_rfl) ?_ _
    refine NoPanic.normal ?_
    go_wp2_with fail
    all_goals
      go_ret
      have hkn2 := HKN.out
      exact ⟨by rw [HO.out]; exact ret_i (by unfold sgn; repeat' split
                                             all_goals omega), unhide HBd⟩
theorem or_any : ∀ d, d ≤ 32 → OrCon d
  | 0, _ => fun s t x y hx => by cases hx
  | d + 1, h => or_up d h (or_any d (by omega))

end Go.Proofs.YtdifpemohdnolaaGreat
