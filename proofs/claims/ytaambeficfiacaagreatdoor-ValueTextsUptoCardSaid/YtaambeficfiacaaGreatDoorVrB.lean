/- The reference's walk. Condition: at most 1048576 bytes; what parted says is given where the parts are checked. -/
import Derived.Test.YtaambeficfiacaaGreatDoorVaH
import Derived.Test.YtaambeficfiacaaGreatDoorVrA
import Derived.Test.YtaambeficfiacaaGreatDoorApp
namespace Go.Proofs.YtaambeficfiacaaGreatDoor
open Go.RowKit VM

theorem decC_ok (b : Bool) : ∀ d s v r, decC b d s = some (v, r) → s = enc v ++ r ∧ (!b || wf d v) = true := by
  intro d
  induction d with
  | zero => intro s v r h; cases h
  | succ d ih =>
    intro s v r h
    cases b with
    | true =>
      rw [decC_true] at h
      obtain ⟨h1, h2⟩ := dec_ok _ _ _ _ h
      exact ⟨h1, by rw [h2]; rfl⟩
    | false =>
      refine ⟨?_, rfl⟩
      cases s with
      | nil => cases h
      | cons k t =>
        unfold decC at h
        by_cases h1 : k = 1
        · rw [if_pos h1] at h
          split at h
          · simp only [Option.some.injEq, Prod.mk.injEq] at h
            obtain ⟨rfl, rfl⟩ := h
            subst h1
            show _ = (1 :: t.take 8) ++ t.drop 8
            rw [List.cons_append, List.take_append_drop]
          · cases h
        rw [if_neg h1] at h
        by_cases h2 : k = 2
        · rw [if_pos h2] at h
          cases t with
          | nil => cases h
          | cons c t =>
            simp only at h
            split at h
            · simp only [Option.some.injEq, Prod.mk.injEq] at h
              obtain ⟨rfl, rfl⟩ := h
              subst h2; rfl
            · cases h
        rw [if_neg h2] at h
        by_cases h3 : k = 10
        · rw [if_pos h3] at h
          subst h3
          match t, h with
          | a :: c :: t', h =>
            simp only [Option.some.injEq, Prod.mk.injEq] at h
            obtain ⟨rfl, rfl⟩ := h
            rfl
        rw [if_neg h3] at h
        split at h
        · match t, h with
          | a :: c :: t', h =>
            simp only at h
            cases hd : decs (decC false d) (u16 a c) t' with
            | none => rw [hd] at h; cases h
            | some q =>
              obtain ⟨l, r2⟩ := q
              rw [hd] at h
              simp only [Bool.not_false, Bool.true_or, if_true, Option.some.injEq, Prod.mk.injEq] at h
              obtain ⟨rfl, rfl⟩ := h
              obtain ⟨a1, a2, _⟩ := decs_ok (p := fun _ => true) (fun s v r q => ⟨(ih s v r q).1, rfl⟩) _ _ _ _ hd
              show _ = (k :: UInt8.ofNat (l.length / 256) :: UInt8.ofNat l.length :: encs l) ++ r2
              rw [a2, (ofNat_u16 a c).1, (ofNat_u16 a c).2, a1]
              simp
        · cases h
def PartsOf (v : V) (ps : List ByteArray) : Prop := match v with
  | .comp _ l => ps.map bs = l.map enc
  | _ => ps = []
/-- what walk leaves -/
def WkPost (o : Option (V × List UInt8)) (N d : Nat) (w : World) (e : Ending) (w' : World) : Prop := match o with
  | none => e = .returned (.tuple #[.int .i64 0, .slice none 0 0, .int .i64 0]) ∧ Below w.heap.size w w'
  | some (v, r) => ∃ (A : Option Addr) (c : Nat) (ps : List ByteArray) (dd : Nat), e = .returned (.tuple #[.int .i64 ((N - r.length : Nat) : Int), .slice A ps.length c, .int .i64 (dd : Int)]) ∧ dd ≤ d ∧
      w'.ownsRow w.heap.size 22 1 (.slice A ps.length c) ps.length (ps.map Value.string) ∧ PartsOf v ps ∧ Below w.heap.size w w'
def WkCon (b : Bool) (d : Nat) : Prop := ∀ (s : ByteArray) (w : World), s.size ≤ 1048576 →
  Calls Tryz.prog 53 #[.string s, .int .i64 (d : Int), .bool b] w (WkPost (decC b d (bs s)) s.size d w)
def PtCon (d : Nat) : Prop := ∀ (k : UInt8) (l : List V) (ps : List ByteArray) (A : Option Addr) (n c : Nat) (w : World), n = ps.length → n ≤ 65535 → isComp k = true → l.all (wf d) = true → ps.map bs = l.map enc → (∀ s ∈ ps, s.size ≤ 1048576) → InC w A (ps.map Value.string) →
  Calls Tryz.prog 68 #[.int .i64 (k.toNat : Int), .slice A n c] w fun e w' => e = .returned (.bool (parted (ord d) k l)) ∧ Below w.heap.size w w'
theorem val_info : (Tryz.prog.info? 22).map (fun i => (i.zero, i.size, i.bytes)) = some (some (.string ⟨#[]⟩), 1, 16) := by kernel_rfl
theorem drop0 {s : ByteArray} {k : UInt8} {r : List UInt8} (h : bs s = k :: r) : s.size = r.length + 1 ∧ (∀ (hh : 0 < s.size), s[0] = k) ∧ ∀ i (hh : i + 1 < s.size), r[i]? = some (s[i + 1]'hh) := by
  have hl := congrArg List.length h
  rw [bs_size, List.length_cons] at hl
  refine ⟨hl, fun hh => ?_, fun i hh => ?_⟩
  · have := bs_get s 0 hh
    rw [h] at this
    exact (Option.some.inj this).symm
  · have := bs_get s (i + 1) hh
    rw [h] at this
    exact this
theorem wk_none {N d : Nat} {w w' : World} {o : Option (V × List UInt8)} (h : o = none) (hb : Below w.heap.size w w') : WkPost o N d w (.returned (.tuple #[.int .i64 0, .slice none 0 0, .int .i64 0])) w' := by
  subst h; exact ⟨rfl, hb⟩
theorem wk_simple {N d : Nat} {w w' : World} {o : Option (V × List UInt8)} {v : V} {r : List UInt8} (z : Int) (h : o = some (v, r)) (hv : ∀ k l, v ≠ .comp k l) (hz : z = ((N - r.length : Nat) : Int)) (hb : Below w.heap.size w w') (hd : 1 ≤ d) : WkPost o N d w (.returned (.tuple #[.int .i64 z, .slice none 0 0, .int .i64 1])) w' := by
  subst h; subst hz
  refine ⟨none, 0, [], 1, rfl, hd, World.ownsRow_nil _ _ _ _, ?_, hb⟩
  cases v with
  | comp k l => exact absurd rfl (hv k l)
  | _ => rfl

set_option linter.unusedSimpArgs false in
set_option maxRecDepth 100000 in
set_option maxHeartbeats 12800000 in
theorem walk_simple (b : Bool) (d : Nat) (s : ByteArray) (k : UInt8) (r : List UInt8) (h : bs s = k :: r) (hk : isComp k = false ∨ r.length < 2) (hb : s.size ≤ 1048576) (w : World) :
    Calls Tryz.prog 53 #[.string s, .int .i64 ((d + 1 : Nat) : Int), .bool b] w (WkPost (decC b (d + 1) (k :: r)) s.size (d + 1) w) := by
  obtain ⟨z1, z2, z3⟩ := drop0 h
  have gd : ((d : Int) + 1 == 0) = false := beq_eq_false_iff_ne.2 (by omega)
  have hs0 : 0 < s.size := by omega
  have e1 := z2 hs0
  have wk : wrap64 (k.toNat : Int) = (k.toNat : Int) := IntWalk.wrap64_in _ (by have := k.toNat_lt; omega)
  by_cases hr : r = []
  · subst hr
    have hd : decC b (d + 1) [k] = none := by
      unfold decC
      split
      · rfl
      split
      · rfl
      split
      · rfl
      split <;> rfl
    have hz : s.size ≤ 1 := by simp at z1; omega
    clear z1 z2 z3 e1 h hk
    go_enter Tryz.func53, Tryz.ntmps53
    go_wp2_with fail
    all_goals
      go_ret3
      first | exact wk_none hd (Below.refl _ _) | exact wk_none rfl (Below.refl _ _)
  obtain ⟨c, r1, rfl⟩ : ∃ c r1, r = c :: r1 := by cases r with | nil => exact absurd rfl hr | cons c r1 => exact ⟨c, r1, rfl⟩
  have hs1 : 1 < s.size := by simp at z1; omega
  have e2 : s[1] = c := by have := z3 0 hs1; exact (Option.some.inj this).symm
  by_cases k1 : k = 1
  · subst k1
    by_cases h8 : 8 ≤ (c :: r1).length
    · have hd : decC b (d + 1) (1 :: c :: r1) = some (.int ((c :: r1).take 8), (c :: r1).drop 8) := by unfold decC; rw [if_pos rfl, if_pos h8]
      have hz : (9 : Int) = ((s.size - ((c :: r1).drop 8).length : Nat) : Int) := by rw [List.length_drop]; omega
      have h9 : 9 ≤ s.size := by omega
      clear z1 z2 z3 h hk hr h8 e2
      go_enter Tryz.func53, Tryz.ntmps53
      go_wp2_with fail
      all_goals
        go_ret3
        exact wk_simple 9 hd (fun _ _ q => by cases q) hz (Below.refl _ _) (by omega)
    · have hd : decC b (d + 1) (1 :: c :: r1) = none := by unfold decC; rw [if_pos rfl, if_neg h8]
      have h9 : ¬ 9 ≤ s.size := by omega
      clear z1 z2 z3 h hk hr h8 e2
      go_enter Tryz.func53, Tryz.ntmps53
      go_wp2_with fail
      all_goals
        go_ret3
        first | exact wk_none hd (Below.refl _ _) | exact wk_none rfl (Below.refl _ _)
  by_cases k2 : k = 2
  · subst k2
    by_cases hc1 : c.toNat ≤ 1
    · have hd : decC b (d + 1) (2 :: c :: r1) = some (.bool c, r1) := by
        unfold decC
        rw [if_neg (by decide), if_pos rfl]
        simp only
        rw [if_pos hc1]
      have hz : (2 : Int) = ((s.size - r1.length : Nat) : Int) := by simp at z1; omega
      have g1 : decide ((1 : Int) < (c.toNat : Int)) = false := decide_eq_false (by omega)
      clear z1 z2 z3 h hk hr
      go_enter Tryz.func53, Tryz.ntmps53
      go_wp2_with fail
      all_goals
        go_ret3
        exact wk_simple 2 hd (fun _ _ q => by cases q) hz (Below.refl _ _) (by omega)
    · have hd : decC b (d + 1) (2 :: c :: r1) = none := by
        unfold decC
        rw [if_neg (by decide), if_pos rfl]
        simp only
        rw [if_neg hc1]
      have g1 : decide ((1 : Int) < (c.toNat : Int)) = true := decide_eq_true (by omega)
      clear z1 z2 z3 h hk hr
      go_enter Tryz.func53, Tryz.ntmps53
      go_wp2_with fail
      all_goals
        go_ret3
        first | exact wk_none hd (Below.refl _ _) | exact wk_none rfl (Below.refl _ _)
  have n1 : ((k.toNat : Int) == 1) = false := u8_ne k1
  have n2 : ((k.toNat : Int) == 2) = false := u8_ne k2
  by_cases k3 : k = 10
  · subst k3
    cases r1 with
    | nil =>
      have hd : decC b (d + 1) [10, c] = none := by
        unfold decC
        rw [if_neg (by decide), if_neg (by decide), if_pos rfl]
      have hz : s.size ≤ 2 := by simp at z1; omega
      clear z1 z2 z3 h hk hr e2
      go_enter Tryz.func53, Tryz.ntmps53
      go_wp2_with fail
      all_goals
        go_ret3
        first | exact wk_none hd (Below.refl _ _) | exact wk_none rfl (Below.refl _ _)
    | cons c2 r2 =>
      have hd : decC b (d + 1) (10 :: c :: c2 :: r2) = some (.name c c2, r2) := by
        unfold decC
        rw [if_neg (by decide), if_neg (by decide), if_pos rfl]
      have hz : (3 : Int) = ((s.size - r2.length : Nat) : Int) := by simp at z1; omega
      have h3 : 3 ≤ s.size := by simp at z1; omega
      clear z1 z2 z3 h hk hr e2
      go_enter Tryz.func53, Tryz.ntmps53
      go_wp2_with fail
      all_goals
        go_ret3
        exact wk_simple 3 hd (fun _ _ q => by cases q) hz (Below.refl _ _) (by omega)
  have hd : decC b (d + 1) (k :: c :: r1) = none := by
    unfold decC
    rw [if_neg k1, if_neg k2, if_neg k3]
    rcases hk with hk | hk
    · rw [if_neg (by rw [hk]; simp)]
    · cases r1 with
      | nil => split <;> rfl
      | cons c2 r2 => exfalso; simp only [List.length_cons] at hk; omega
  have hcc : (¬ (3 ≤ k.toNat ∧ k.toNat ≤ 10)) ∨ s.size < 3 := by
    rcases hk with hk | hk
    · left
      unfold isComp at hk
      have h9 := of_decide_eq_false hk
      have : k.toNat ≠ 10 := fun q => k3 (UInt8.toNat_inj.1 (show k.toNat = 10 from q))
      omega
    · right; simp at hk z1; omega
  clear z1 z2 z3 h hk hr e2 k1 k2 k3
  go_enter Tryz.func53, Tryz.ntmps53
  go_wp2_with fail
  all_goals first
    | (exfalso; omega)
    | (go_ret3; first | exact wk_none hd (Below.refl _ _) | exact wk_none rfl (Below.refl _ _))

end Go.Proofs.YtaambeficfiacaaGreatDoor
