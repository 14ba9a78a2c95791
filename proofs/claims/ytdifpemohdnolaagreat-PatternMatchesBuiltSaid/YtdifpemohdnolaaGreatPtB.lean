/- The program's end and isPattern. Conditions: at most 2^62 nodes. -/
import Derived.Test.YtdifpemohdnolaaGreatB0
namespace Go.Proofs.YtdifpemohdnolaaGreat
open Go.RowKit

/-- operator, Int, number of children -/
abbrev Cd := Int × Int × Int
def cdCells (t : Cd) : List Value := [.int .i64 t.1, .int .i64 t.2.1, .int .i64 t.2.2]
theorem cd_len (t : Cd) : (cdCells t).length = 3 := rfl
def permL (c : Cd) : Bool :=
  if c.1 = 30 ∨ c.1 = 31 then decide (c.2.1 = 0 ∧ c.2.2 = 0)
  else if c.1 = 32 then decide (c.2.2 = 0)
  else if c.1 = 33 then decide ((c.2.1 = 0 ∨ c.2.1 = 1) ∧ c.2.2 = 0)
  else if c.1 = 34 then decide (c.2.1 = 0 ∧ 2 ≤ c.2.2 ∧ c.2.2 ≤ 8)
  else if c.1 = 35 then decide (c.2.1 = 0 ∧ 0 ≤ c.2.2)
  else if c.1 = 36 then decide (0 ≤ c.2.1 ∧ c.2.1 < c.2.2)
  else if c.1 = 37 then decide (c.2.1 = 0 ∧ (c.2.2 = 0 ∨ c.2.2 = 1))
  else if c.1 = 38 then decide (0 ≤ c.2.2)
  else if c.1 = 39 ∨ c.1 = 40 then decide (c.2.1 = 0 ∧ c.2.2 = 2)
  else false
def allL (c : Cd) : Bool := decide (c.1 = 30 ∨ c.1 = 31)
theorem perm_kids {c : Cd} (h : permL c = true) : 0 ≤ c.2.2 := by
  unfold permL at h
  repeat' split at h
  all_goals first | (have := of_decide_eq_true h; omega) | cases h
/-- the children one after another -/
def loopL (f : Nat → Option Nat) (bad : Nat → Nat → Bool) : Nat → Nat → Nat → Option Nat
  | 0, _, i => some i
  | r + 1, k, i => match f i with
    | none => none
    | some j => if bad k i = true then none else loopL f bad r (k + 1) j
def badL (p : List Cd) (c : Cd) (k i : Nat) : Bool := decide (c.1 = 36 ∧ (k : Int) = c.2.1) && !(((p[i]?).map allL).getD true)
/-- where the pattern at i ends, nested at most d deep -/
def pendL : Nat → List Cd → Nat → Option Nat
  | 0, _, _ => none
  | d + 1, p, i => match p[i]? with
    | none => none
    | some c => if permL c = true then loopL (pendL d p) (badL p c) c.2.2.toNat 0 (i + 1) else none
def isPat (p : List Cd) : Bool := decide (p.length ≤ 8192) && decide (pendL 64 p 0 = some p.length)
theorem loopL_le {f : Nat → Option Nat} {bad : Nat → Nat → Bool} {n : Nat} (hf : ∀ i j, f i = some j → i < j ∧ j ≤ n) : ∀ (r k i j : Nat), i ≤ n → loopL f bad r k i = some j → i ≤ j ∧ j ≤ n
  | 0, _, i, j, hi, h => by cases h; exact ⟨Nat.le_refl _, hi⟩
  | r + 1, k, i, j, hi, h => by
    unfold loopL at h
    cases hq : f i with
    | none => rw [hq] at h; cases h
    | some q =>
      rw [hq] at h
      simp only at h
      split at h
      · cases h
      · have h1 := hf i q hq
        have h2 := loopL_le hf r (k + 1) q j h1.2 h
        omega
theorem pendL_lt : ∀ (d : Nat) {p : List Cd} {i j : Nat}, pendL d p i = some j → i < j ∧ j ≤ p.length
  | 0, _, _, _, h => by cases h
  | d + 1, p, i, j, h => by
    unfold pendL at h
    cases hc : p[i]? with
    | none => rw [hc] at h; cases h
    | some c =>
      rw [hc] at h
      simp only at h
      have hl := (List.getElem?_eq_some_iff.1 hc).1
      split at h
      · have := loopL_le (fun a b hab => pendL_lt d hab) _ _ _ _ (by omega) h
        omega
      · cases h
theorem ops11 (k : Int) : k = 30 ∨ k = 31 ∨ k = 32 ∨ k = 33 ∨ k = 34 ∨ k = 35 ∨ k = 36 ∨ k = 37 ∨ k = 38 ∨ k = 39 ∨ k = 40 ∨ (k < 30 ∨ 40 < k) := by omega
set_option maxRecDepth 100000 in
set_option maxHeartbeats 3200000 in
theorem permitted_any (k num kids : Int) (w : World) :
    Calls Tryz.prog 72 #[.agg #[.int .i64 k, .int .i64 num, .int .i64 kids]] w fun e w' => e = .returned (.bool (permL (k, num, kids))) ∧ w.alloc (.cells #[.int .i64 k, .int .i64 num, .int .i64 kids] 27) = w' := by
  rcases ops11 k with rfl | rfl | rfl | rfl | rfl | rfl | rfl | rfl | rfl | rfl | rfl | hk
  iterate 11
    · go_enter Tryz.func72, Tryz.ntmps72
      go_wp2
      all_goals
        go_ret
        exact ⟨ret_bool (by rw [Bool.eq_iff_iff]; unfold permL; simp <;> omega), by first | rfl | simp [*]⟩
  · have hv : permL (k, num, kids) = false := by
      unfold permL
      rw [if_neg (by simp only; omega), if_neg (by simp only; omega), if_neg (by simp only; omega), if_neg (by simp only; omega), if_neg (by simp only; omega), if_neg (by simp only; omega), if_neg (by simp only; omega), if_neg (by simp only; omega), if_neg (by simp only; omega)]
    have HV := Lib.hid hv
    have g1 : (k == 30) = false := beq_eq_false_iff_ne.2 (by omega)
    have g2 : (k == 31) = false := beq_eq_false_iff_ne.2 (by omega)
    have g3 : (k == 32) = false := beq_eq_false_iff_ne.2 (by omega)
    have g4 : (k == 33) = false := beq_eq_false_iff_ne.2 (by omega)
    have g5 : (k == 34) = false := beq_eq_false_iff_ne.2 (by omega)
    have g6 : (k == 35) = false := beq_eq_false_iff_ne.2 (by omega)
    have g7 : (k == 36) = false := beq_eq_false_iff_ne.2 (by omega)
    have g8 : (k == 37) = false := beq_eq_false_iff_ne.2 (by omega)
    have g9 : (k == 38) = false := beq_eq_false_iff_ne.2 (by omega)
    have g10 : (k == 39) = false := beq_eq_false_iff_ne.2 (by omega)
    have g11 : (k == 40) = false := beq_eq_false_iff_ne.2 (by omega)
    clear hk hv
    go_enter Tryz.func72, Tryz.ntmps72
    go_wp2
    all_goals
      go_ret
      exact ⟨ret_bool HV.out.symm, rfl⟩
set_option maxRecDepth 100000 in
set_option maxHeartbeats 3200000 in
theorem matchesAll_any (k num kids : Int) (w : World) :
    Calls Tryz.prog 67 #[.agg #[.int .i64 k, .int .i64 num, .int .i64 kids]] w fun e w' => e = .returned (.bool (allL (k, num, kids))) ∧ w.alloc (.cells #[.int .i64 k, .int .i64 num, .int .i64 kids] 27) = w' := by
  by_cases h1 : k = 30
  · subst h1
    go_enter Tryz.func67, Tryz.ntmps67
    go_wp2
    all_goals
      go_ret
      exact ⟨ret_bool (by rw [Bool.eq_iff_iff]; unfold allL; simp), rfl⟩
  · have g1 : (k == 30) = false := beq_eq_false_iff_ne.2 h1
    have HV : Hid ((k == 31) = allL (k, num, kids)) := Lib.hid (by unfold allL; rw [Bool.eq_iff_iff]; simp; omega)
    go_enter Tryz.func67, Tryz.ntmps67
    go_wp2
    all_goals
      go_ret
      exact ⟨ret_bool HV.out, rfl⟩

end Go.Proofs.YtdifpemohdnolaaGreat
namespace Go.Proofs.YtdifpemohdnolaaGreat
open Go.RowKit

def encO : Option Nat → Int
  | none => -1
  | some j => (j : Int)
def RetO (w : World) (o : Option Nat) (e : Ending) (w' : World) : Prop := e = .returned (.int .i64 (encO o)) ∧ Below w.heap.size w w'
def PEndCon (d : Nat) : Prop := ∀ (p : List Cd) (A : Option Addr) (n c i : Nat) (w : World), n = p.length → n ≤ 4611686018427387904 → i ≤ n → InC w A (p.flatMap cdCells) →
  Calls Tryz.prog 56 #[.slice A n c, .int .i64 (i : Int), .int .i64 (d : Int)] w (RetO w (pendL d p i))
theorem permitted_b (t : Cd) (b : Bool) (h : permL t = b) (w : World) : Calls Tryz.prog 72 #[.agg #[.int .i64 t.1, .int .i64 t.2.1, .int .i64 t.2.2]] w fun e w' => e = .returned (.bool b) ∧ w.alloc (.cells #[.int .i64 t.1, .int .i64 t.2.1, .int .i64 t.2.2] 27) = w' := by
  obtain ⟨k, num, kids⟩ := t
  rw [← h]
  exact permitted_any k num kids w
theorem matchesAll_b (t : Cd) (b : Bool) (h : allL t = b) (w : World) : Calls Tryz.prog 67 #[.agg #[.int .i64 t.1, .int .i64 t.2.1, .int .i64 t.2.2]] w fun e w' => e = .returned (.bool b) ∧ w.alloc (.cells #[.int .i64 t.1, .int .i64 t.2.1, .int .i64 t.2.2] 27) = w' := by
  obtain ⟨k, num, kids⟩ := t
  rw [← h]
  exact matchesAll_any k num kids w
/-- the cells of node i -/
theorem cd_at {w : World} {A : Option Addr} {p : List Cd} (h : InC w A (p.flatMap cdCells)) {i : Nat} {t : Cd} (hi : p[i]? = some t) :
    ∃ b off, A = some ⟨b, off, none⟩ ∧ b < w.heap.size ∧ w.cell? ⟨b, off + i * 3, none⟩ = some (.int .i64 t.1) ∧ w.cell? ⟨b, off + i * 3 + 1, none⟩ = some (.int .i64 t.2.1) ∧ w.cell? ⟨b, off + i * 3 + 2, none⟩ = some (.int .i64 t.2.2) := by
  obtain ⟨b, off, h1, h2, h3⟩ := h.elem cd_len (k := i) (t := t) hi (by decide)
  exact ⟨b, off, h1, h2, by have := h3 0 _ rfl; rwa [Nat.add_zero] at this, h3 1 _ rfl, h3 2 _ rfl⟩
theorem loopL_step {f : Nat → Option Nat} {bad : Nat → Nat → Bool} {K k i : Nat} (h : k < K) : loopL f bad (K - k) k i = match f i with
    | none => none
    | some j => if bad k i = true then none else loopL f bad (K - (k + 1)) (k + 1) j := by
  obtain ⟨r, hr⟩ : ∃ r, K - k = r + 1 := ⟨K - k - 1, by omega⟩
  rw [hr, show K - (k + 1) = r by omega]
  rfl
set_option linter.unusedSimpArgs false in
set_option maxRecDepth 100000 in
set_option maxHeartbeats 6400000 in
theorem pend_up : ∀ d : Nat, d ≤ 64 → PEndCon d := by
  intro d
  induction d with
  | zero =>
    intro _ p A n c i w hn hl hi hA
    rw [show pendL 0 p i = none from rfl]
    by_cases hin : i < n
    · have g1 : decide ((n : Int) ≤ (i : Int)) = false := decide_eq_false (by omega)
      clear hn hA
      go_enter Tryz.func56, Tryz.ntmps56
      go_wp2_with fail
      go_ret
      exact ⟨rfl, Below.refl _ _⟩
    · have g1 : decide ((n : Int) ≤ (i : Int)) = true := decide_eq_true (by omega)
      clear hn hA
      go_enter Tryz.func56, Tryz.ntmps56
      go_wp2_with fail
      go_ret
      exact ⟨rfl, Below.refl _ _⟩
  | succ d ih =>
    intro hd p A n c i w hn hl hi hA
    by_cases hin : i < n
    · obtain ⟨t, ht⟩ : ∃ t, p[i]? = some t := ⟨_, List.getElem?_eq_getElem (by omega)⟩
      have hE : pendL (d + 1) p i = if permL t = true then loopL (pendL d p) (badL p t) t.2.2.toNat 0 (i + 1) else none := by
        show (match p[i]? with | none => none | some c => _) = _
        rw [ht]
      obtain ⟨b, off, hAe, hb, x0, x1, x2⟩ := cd_at hA ht
      have HA := hide hA
      have HN := Lib.hid hn
      have IH := Lib.hid (ih (by omega))
      subst hAe
      have g1 : decide ((n : Int) ≤ (i : Int)) = false := decide_eq_false (by omega)
      have g2 : ((d : Int) + 1 == 0) = false := beq_eq_false_iff_ne.2 (by omega)
      have hw1 : IntKind.i64.wrap ((d : Int) + 1 - 1) = (d : Int) := by rw [show ((d : Int) + 1 - 1) = d by omega]; exact IntWalk.i64_in _ (by omega)
      clear ih hA hn
      cases hv : permL t with
      | false =>
        rw [hv, if_neg (by decide)] at hE
        have HV := Lib.hid (permitted_b t _ hv)
        rw [hE]
        clear hE hv ht IH hw1
        obtain ⟨k, num, kids⟩ := t
        dsimp only at x0 x1 x2 HV
        go_enter Tryz.func56, Tryz.ntmps56
        go_wp2_with fail
        refine (HV.out _).mono ?_
        rintro e w1 ⟨rfl, rfl⟩
        go_wp2_with fail
        go_ret
        exact ⟨rfl, (Below.refl _ _).alloc (Nat.le_refl _) _⟩
      | true =>
        rw [hv, if_pos rfl] at hE
        have HV := Lib.hid (permitted_b t _ hv)
        have hk0 := perm_kids hv
        rw [hE]
        generalize ho : loopL (pendL d p) (badL p t) t.2.2.toNat 0 (i + 1) = o
        have HO := Lib.hid ho
        have HT := Lib.hid ht
        clear hE hv ht ho
        obtain ⟨k, num, kids⟩ := t
        dsimp only at x0 x1 x2 HV hk0 HO
        obtain ⟨K, rfl⟩ : ∃ K : Nat, kids = K := ⟨kids.toNat, by omega⟩
        rw [Int.toNat_natCast] at HO
        have gi : IntKind.i64.wrap ((i : Int) + 1) = ((i + 1 : Nat) : Int) := by rw [IntWalk.i64_in _ (by omega)]; simp
        obtain ⟨i1, hi1⟩ : ∃ i1, i1 = i + 1 := ⟨_, rfl⟩
        rw [← hi1] at HO gi
        have hi1n : i1 ≤ n := by omega
        have hi11 : 0 + 1 ≤ i1 := by omega
        clear hi1 hk0
        go_enter Tryz.func56, Tryz.ntmps56
        go_wp2_with fail
        refine (HV.out _).mono ?_
        rintro e w1 ⟨rfl, rfl⟩
        clear HV
        have hl1 : ∀ o, (w.alloc (.cells #[.int .i64 k, .int .i64 num, .int .i64 (K : Int)] 27)).cell? ⟨b, o, none⟩ = w.cell? ⟨b, o, none⟩ := fun o => World.cell?_alloc_lt _ _ _ hb
        have y0 := (hl1 (off + i * 3)).trans x0
        have y1 := (hl1 (off + i * 3 + 1)).trans x1
        have y2 := (hl1 (off + i * 3 + 2)).trans x2
        have HB1 : Hid (Below w.heap.size w (w.alloc (.cells #[.int .i64 k, .int .i64 num, .int .i64 (K : Int)] 27))) := hide ((Below.refl _ _).alloc (Nat.le_refl _) _)
        clear hl1 x0 x1 x2
        generalize w.alloc (.cells #[.int .i64 k, .int .i64 num, .int .i64 (K : Int)] 27) = w1 at *
        go_wp2_with fail
        have HK : Hid (Blk (w1.alloc (.cells #[.int .i64 k, .int .i64 num, .int .i64 (K : Int)] 27)) w1.heap.size 27 #[.int .i64 k, .int .i64 num, .int .i64 (K : Int)]) := hide (Blk.new w1 _ _)
        have HB2 := hide ((unhide HB1).alloc (unhide HB1).size (.cells #[.int .i64 k, .int .i64 num, .int .i64 (K : Int)] 27))
        obtain ⟨g, hg⟩ : ∃ g, Hid (g = w1.heap.size) := ⟨_, Lib.hid rfl⟩
        rw [← hg.out] at HK
        simp only [← hg.out]
        generalize w1.alloc (.cells #[.int .i64 k, .int .i64 num, .int .i64 (K : Int)] 27) = w2 at *
        clear hg y0 y1 y2
        have gd : decide (n ≤ i) = false := decide_eq_false (by omega)
        simp only [gd]
        clear gd
        go_loopw [1, 34] (fun iv kv wr => ∃ (kk iq : Nat), kv = .int .i64 kk ∧ iv = .int .i64 iq ∧ kk ≤ K ∧ kk + 1 ≤ iq ∧ iq ≤ n ∧ Hid (loopL (pendL d p) (badL p (k, num, (K : Int))) (K - kk) kk iq = o) ∧ Hid (Below w2.heap.size w2 wr)) (fun _ kv _ => K - (intOf kv).toNat)
        case atStart => exact ⟨0, i1, rfl, rfl, by omega, hi11, hi1n, HO.out, Below.refl _ _⟩
        case round =>
          obtain ⟨kk, iq, rfl, rfl, hkk, hkq, hiq, hL, hB⟩ := hrel
          by_cases hkK : kk < K
          · have hkk3 := hide hkK
            have HL2 : Hid ((match pendL d p iq with | none => none | some j => if badL p (k, num, (K : Int)) kk iq = true then none else loopL (pendL d p) (badL p (k, num, (K : Int))) (K - (kk + 1)) (kk + 1) j) = o) := Lib.hid (by rw [← loopL_step hkK]; exact hL.out)
            have HC := hide (IH.out p (some ⟨b, off, none⟩) n c iq wr HN.out hl hiq (((unhide HA).below (unhide HB2)).below hB.out))
            cases hq : pendL d p iq with
            | none =>
              rw [hq] at HL2 HC
              have HQ : Hid (o = none) := Lib.hid HL2.out.symm
              have HBR := hide ((unhide HB2).trans (hB.out.mono (unhide HB2).size))
              clear hq HL2 hL
              go_wp2_with fail
              refine (unhide HC).mono ?_
              rintro e w3 ⟨rfl, hb3⟩
              have HB3 := hide ((unhide HBR).trans (hb3.mono (unhide HBR).size))
              clear hb3
              change Hid (Calls _ _ _ _ _) at HC
              go_wp2_with fail
              go_ret
              exact ⟨by rw [HQ.out]; rfl, unhide HB3⟩
            | some j =>
              rw [hq] at HL2 HC
              have hj := pendL_lt d hq
              rw [← HN.out] at hj
              have HBR := hide ((unhide HB2).trans (hB.out.mono (unhide HB2).size))
              obtain ⟨t2, ht2⟩ : ∃ t, p[iq]? = some t := ⟨_, List.getElem?_eq_getElem (by have := HN.out; omega)⟩
              have HT2 := Lib.hid ht2
              have hbad : badL p (k, num, (K : Int)) kk iq = (decide (k = 36 ∧ (kk : Int) = num) && !(allL t2)) := by unfold badL; rw [ht2]; rfl
              rw [hbad] at HL2
              have gj : ((j : Int) == -1) = false := beq_eq_false_iff_ne.2 (by omega)
              clear hq hL ht2 hbad
              go_wp2_with fail
              refine (unhide HC).mono ?_
              rintro e w3 ⟨rfl, hb3⟩
              have HB3 := hide (hB.out.trans (hb3.mono hB.out.size))
              have HBW := hide ((unhide HBR).trans (hb3.mono (unhide HBR).size))
              have hK3 := (unhide HK).below (unhide HB3) (unhide HK).lt
              have z0 := hK3.cell 0
              have z1 := hK3.cell 1
              have z2 := hK3.cell 2
              change w3.cell? ⟨g, 0, none⟩ = some (.int .i64 k) at z0
              change w3.cell? ⟨g, 1, none⟩ = some (.int .i64 num) at z1
              change w3.cell? ⟨g, 2, none⟩ = some (.int .i64 (K : Int)) at z2
              clear hb3 hK3 HC HBR
              change Hid _ at HL2
              simp only [encO]
              by_cases h36 : k = 36
              · by_cases hkn : (kk : Int) = num
                · have g36 : (k == 36) = true := by rw [h36]; rfl
                  have gkn : ((kk : Int) == num) = true := by rw [hkn]; simp
                  rw [decide_eq_true ⟨h36, hkn⟩, Bool.true_and] at HL2
                  obtain ⟨b2, off2, hAe2, hb2, v0, v1, v2⟩ := cd_at ((unhide HA).below (unhide HBW)) HT2.out
                  injection hAe2 with hAe2
                  injection hAe2 with h1 h2
                  subst h1 h2
                  have HW3 := hide HBW.out
                  clear h36 hkn
                  cases hal : allL t2 with
                  | true =>
                    have HM := Lib.hid (matchesAll_b t2 _ hal)
                    rw [hal] at HL2
                    have HL3 : Hid (loopL (pendL d p) (badL p (k, num, (K : Int))) (K - (kk + 1)) (kk + 1) j = o) := HL2
                    obtain ⟨k2, n2, c2⟩ := t2
                    dsimp only at v0 v1 v2 HM
                    clear hal HL2
                    go_wp2_with fail
                    refine (HM.out _).mono ?_
                    rintro e w4 ⟨rfl, rfl⟩
                    have HB4 := hide ((unhide HB3).alloc (unhide HB3).size (.cells #[.int .i64 k2, .int .i64 n2, .int .i64 c2] 27))
                    go_wp2_with fail
                    go_roundw
                    case rel => exact ⟨kk + 1, j, by go_num, rfl, by have := unhide hkk3; omega, by omega, hj.2, HL3.out, unhide HB4⟩
                    case measure => have := unhide hkk3; simp [intOf]; omega
                  | false =>
                    have HM := Lib.hid (matchesAll_b t2 _ hal)
                    rw [hal] at HL2
                    have HQ : Hid (o = none) := Lib.hid HL2.out.symm
                    obtain ⟨k2, n2, c2⟩ := t2
                    dsimp only at v0 v1 v2 HM
                    clear hal HL2
                    go_wp2_with fail
                    refine (HM.out _).mono ?_
                    rintro e w4 ⟨rfl, rfl⟩
                    have HB4 := hide ((unhide HBW).alloc (unhide HBW).size (.cells #[.int .i64 k2, .int .i64 n2, .int .i64 c2] 27))
                    go_wp2_with fail
                    go_ret
                    exact ⟨by rw [HQ.out]; rfl, unhide HB4⟩
                · have g36 : (k == 36) = true := by rw [h36]; rfl
                  have gkn : ((kk : Int) == num) = false := beq_eq_false_iff_ne.2 hkn
                  rw [decide_eq_false (fun q => hkn q.2), Bool.false_and] at HL2
                  have HL3 : Hid (loopL (pendL d p) (badL p (k, num, (K : Int))) (K - (kk + 1)) (kk + 1) j = o) := HL2
                  clear h36 hkn HL2
                  go_wp2_with fail
                  go_roundw
                  case rel => exact ⟨kk + 1, j, by go_num, rfl, by have := unhide hkk3; omega, by omega, hj.2, HL3.out, unhide HB3⟩
                  case measure => have := unhide hkk3; simp [intOf]; omega
              · have g36 : (k == 36) = false := beq_eq_false_iff_ne.2 h36
                rw [decide_eq_false (fun q => h36 q.1), Bool.false_and] at HL2
                have HL3 : Hid (loopL (pendL d p) (badL p (k, num, (K : Int))) (K - (kk + 1)) (kk + 1) j = o) := HL2
                clear h36 HL2
                go_wp2_with fail
                go_roundw
                case rel => exact ⟨kk + 1, j, by go_num, rfl, by have := unhide hkk3; omega, by omega, hj.2, HL3.out, unhide HB3⟩
                case measure => have := unhide hkk3; simp [intOf]; omega
          · have hkk2 : K - kk = 0 := by omega
            have HQ : Hid (o = some iq) := Lib.hid (by have := hL.out; rw [hkk2] at this; exact this.symm)
            have HBR := hide ((unhide HB2).trans (hB.out.mono (unhide HB2).size))
            clear hL hkk2
            go_wp2_with fail
            go_ret
            exact ⟨by rw [HQ.out]; rfl, unhide HBR⟩
    · have hE : pendL (d + 1) p i = none := by
        show (match p[i]? with | none => none | some c => _) = _
        rw [List.getElem?_eq_none (by omega)]
      rw [hE]
      have g1 : decide ((n : Int) ≤ (i : Int)) = true := decide_eq_true (by omega)
      clear hn hA hE
      go_enter Tryz.func56, Tryz.ntmps56
      go_wp2_with fail
      go_ret
      exact ⟨rfl, Below.refl _ _⟩

end Go.Proofs.YtdifpemohdnolaaGreat
