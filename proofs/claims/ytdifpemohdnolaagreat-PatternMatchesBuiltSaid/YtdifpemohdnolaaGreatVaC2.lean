/- Compare, and that it is a total order. Condition: at most 2^48 bytes. -/
import Derived.Test.YtdifpemohdnolaaGreatVaH
import Derived.Laws.Cover1
namespace Go.Proofs.YtdifpemohdnolaaGreat
open Go.RowKit VM

theorem nanS (s : ByteArray) (w : World) : Calls Tryz.prog 141 #[.string s] w fun e w' => e = .returned (.bool false) ∧ w = w' := by
  have g : (s.toList == s.toList) = true := beq_self_eq_true _
  go_enter Tryz.func141, Tryz.ntmps141
  go_wp2
  go_ret
  exact ⟨rfl, rfl⟩
def lessS (s t : ByteArray) : Bool := Op.bytesLess s.toList t.toList
theorem ne_list {s t : ByteArray} (h : s ≠ t) : (s.toList == t.toList) = false := beq_eq_false_iff_ne.2 fun q => h (by
  rw [ByteArray.toList_eq, ByteArray.toList_eq] at q
  exact ByteArray.ext (Array.toList_inj.1 q))
/-- the value that a valid string is -/
def treeB (s : ByteArray) : V := match dec 32 (bs s) with
  | some (v, _) => v
  | none => .bool 0
theorem tree_ok {s : ByteArray} (h : valB 32 s = true) : wf 32 (treeB s) = true ∧ bs s = enc (treeB s) ∧ s.size ≤ 131072 := by
  unfold valB at h
  rw [Bool.and_eq_true, decide_eq_true_eq] at h
  obtain ⟨h1, h2⟩ := h
  unfold treeB
  cases hd : dec 32 (bs s) with
  | none => rw [hd] at h2; cases h2
  | some q =>
    obtain ⟨v, r⟩ := q
    rw [hd] at h2
    obtain ⟨a1, a2⟩ := dec_ok 32 _ _ _ hd
    cases r with
    | nil => exact ⟨a2, by rw [a1, List.append_nil], h1⟩
    | cons b r => cases h2
theorem bs_inj {s t : ByteArray} (h : bs s = bs t) : s = t := ByteArray.ext (Array.toList_inj.1 h)
/-- Compare -/
def cmpM (s t : ByteArray) : Int := if s = t then 0 else if valB 32 s = true then (if valB 32 t = true then ord 32 (treeB s) (treeB t) else 1) else if valB 32 t = true then -1 else if lessS s t = true then -1 else 1
/-! the order of the strings is total -/
theorem bl_total : ∀ x y : List UInt8, x ≠ y → Op.bytesLess y x = !Op.bytesLess x y := by
  intro x
  induction x with
  | nil => intro y h; cases y with | nil => exact absurd rfl h | cons b y => rfl
  | cons a x ih =>
    intro y h
    cases y with
    | nil => rfl
    | cons b y =>
      unfold Op.bytesLess
      by_cases hab : a = b
      · subst hab
        have hxy : x ≠ y := fun q => h (by rw [q])
        have : ¬ (a < a) := by rw [UInt8.lt_iff_toNat_lt]; omega
        simp [this, ih y hxy]
      · have hne : a.toNat ≠ b.toNat := fun q => hab (UInt8.toNat_inj.1 q)
        have hba : ¬ b = a := fun q => hab q.symm
        simp only [beq_eq_false_iff_ne.2 hab, beq_eq_false_iff_ne.2 hba, Bool.false_and, Bool.or_false]
        rw [Bool.eq_iff_iff]
        simp only [decide_eq_true_eq, Bool.not_eq_true', decide_eq_false_iff_not, UInt8.lt_iff_toNat_lt]
        omega
theorem bl_trans : ∀ x y z : List UInt8, Op.bytesLess x y = true → Op.bytesLess y z = true → Op.bytesLess x z = true := by
  intro x
  induction x with
  | nil => intro y z h1 h2; cases z with | nil => cases y <;> simp [Op.bytesLess] at h2 | cons c z => rfl
  | cons a x ih =>
    intro y z h1 h2
    cases y with
    | nil => simp [Op.bytesLess] at h1
    | cons b y =>
      cases z with
      | nil => simp [Op.bytesLess] at h2
      | cons c z =>
        unfold Op.bytesLess at h1 h2 ⊢
        simp only [Bool.or_eq_true, Bool.and_eq_true, decide_eq_true_eq, beq_iff_eq, UInt8.lt_iff_toNat_lt] at h1 h2 ⊢
        rcases h1 with h1 | ⟨rfl, h1⟩
        · rcases h2 with h2 | ⟨rfl, h2⟩
          · left; omega
          · left; exact h1
        · rcases h2 with h2 | ⟨rfl, h2⟩
          · left; exact h2
          · right; exact ⟨rfl, ih y z h1 h2⟩
theorem less_total {s t : ByteArray} (h : s ≠ t) : lessS t s = !lessS s t := bl_total _ _ fun q => h (by
  rw [ByteArray.toList_eq, ByteArray.toList_eq] at q
  exact ByteArray.ext (Array.toList_inj.1 q))
theorem cmpM_self (s : ByteArray) : cmpM s s = 0 := by unfold cmpM; rw [if_pos rfl]
theorem ord_ne {s t : ByteArray} (h : s ≠ t) (h1 : valB 32 s = true) (h2 : valB 32 t = true) : ord 32 (treeB s) (treeB t) ≠ 0 := fun q => by
  obtain ⟨a1, a2, _⟩ := tree_ok h1
  obtain ⟨b1, b2, _⟩ := tree_ok h2
  have := (ord_tot 32).zero _ _ a1 b1 q
  exact h (bs_inj (by rw [a2, b2, this]))
theorem cmpM_zero (s t : ByteArray) : cmpM s t = 0 ↔ s = t := by
  constructor
  · intro h
    apply Decidable.byContradiction
    intro hne
    unfold cmpM at h
    rw [if_neg hne] at h
    split at h
    · split at h
      · exact ord_ne hne ‹_› ‹_› h
      · omega
    · split at h
      · omega
      · split at h <;> omega
  · rintro rfl; exact cmpM_self s
theorem cmpM_anti (s t : ByteArray) : cmpM s t = - cmpM t s := by
  by_cases h : s = t
  · subst h; rw [cmpM_self]; rfl
  · have h' : t ≠ s := fun q => h q.symm
    have hl := less_total h
    unfold cmpM
    rw [if_neg h, if_neg h']
    by_cases h1 : valB 32 s = true <;> by_cases h2 : valB 32 t = true
    · rw [if_pos h1, if_pos h2, if_pos h2, if_pos h1]
      exact (ord_tot 32).anti _ _ (tree_ok h1).1 (tree_ok h2).1
    · rw [if_pos h1, if_neg h2, if_neg h2, if_pos h1]; rfl
    · rw [if_neg h1, if_pos h2, if_pos h2, if_neg h1]
    · rw [if_neg h1, if_neg h2, if_neg h2, if_neg h1, hl]
      cases lessS s t <;> rfl
theorem cmpM_trans (s t u : ByteArray) (h1 : cmpM s t ≤ 0) (h2 : cmpM t u ≤ 0) : cmpM s u ≤ 0 := by
  by_cases e1 : s = t
  · subst e1; exact h2
  by_cases e2 : t = u
  · subst e2; exact h1
  by_cases e3 : s = u
  · subst e3; rw [cmpM_self]; omega
  unfold cmpM at h1 h2 ⊢
  rw [if_neg e1] at h1
  rw [if_neg e2] at h2
  rw [if_neg e3]
  by_cases v1 : valB 32 s = true <;> by_cases v2 : valB 32 t = true <;> by_cases v3 : valB 32 u = true
  · rw [if_pos v1, if_pos v2] at h1
    rw [if_pos v2, if_pos v3] at h2
    rw [if_pos v1, if_pos v3]
    exact (ord_tot 32).trans _ _ _ (tree_ok v1).1 (tree_ok v2).1 (tree_ok v3).1 h1 h2
  · rw [if_pos v2, if_neg v3] at h2; omega
  · rw [if_pos v1, if_neg v2] at h1; omega
  · rw [if_pos v1, if_neg v2] at h1; omega
  · rw [if_neg v1, if_pos v3]; omega
  · rw [if_pos v2, if_neg v3] at h2; omega
  · rw [if_neg v1, if_pos v3]; omega
  · rw [if_neg v1, if_neg v2] at h1
    rw [if_neg v2, if_neg v3] at h2
    rw [if_neg v1, if_neg v3]
    have l1 : lessS s t = true := by cases h : lessS s t; (rw [h] at h1; simp at h1); rfl
    have l2 : lessS t u = true := by cases h : lessS t u; (rw [h] at h2; simp at h2); rfl
    rw [if_pos (show lessS s u = true from bl_trans _ _ _ l1 l2)]
    omega

end Go.Proofs.YtdifpemohdnolaaGreat
