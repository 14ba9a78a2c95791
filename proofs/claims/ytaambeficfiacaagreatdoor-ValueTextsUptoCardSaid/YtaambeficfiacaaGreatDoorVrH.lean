/- The reference's parted. Conditions: at most 65535 parts of at most 1048576 bytes each, at most 32 levels. -/
import Derived.Test.YtaambeficfiacaaGreatDoorVrG
namespace Go.Proofs.YtaambeficfiacaaGreatDoor
open Go.RowKit VM

theorem part_at {l : List V} {ps : List ByteArray} (hp : ps.map bs = l.map enc) {i : Nat} {x : V} {u : ByteArray} (hx : l[i]? = some x) (hu : ps[i]? = some u) : bs u = enc x := by
  have := congrArg (·[i]?) hp
  simp only [List.getElem?_map, hu, hx, Option.map_some, Option.some.injEq] at this
  exact this
theorem head7 {d : Nat} {a : V} (h : wf d a = true) : ((a.kind.toNat : Int) == 10) = headOK 7 a := by
  cases a with
  | int l => rfl
  | bool b => rfl
  | name b c => rfl
  | comp k l =>
    have hk := (kind_comp h).2.2
    show ((k.toNat : Int) == 10) = false
    exact u8_ne hk
set_option linter.unusedSimpArgs false in
set_option maxRecDepth 100000 in
set_option maxHeartbeats 6400000 in
theorem parted_any (d : Nat) (hd : d ≤ 32) : PtCon d := by
  intro k l ps A n c w hn hn1 hk hw hp hs hr
  have l1 : l.length = n := by have := congrArg List.length hp; rw [List.length_map, List.length_map] at this; omega
  have HA1 := Lib.hid (fun w hr => asc_any1 d hd l ps A n c w hn hn1 hw hp hs hr)
  have HA2 := Lib.hid (fun w hr => asc_any2 d hd l ps A n c w hn hn1 hw hp hs hr)
  have HR := hide hr
  have hk39 : 3 ≤ k.toNat ∧ k.toNat ≤ 9 := by unfold isComp at hk; exact of_decide_eq_true hk
  by_cases k3 : k = 3
  · subst k3
    have e : parted (ord d) 3 l = decide (2 ≤ n ∧ n ≤ 8) := by
      unfold parted countOK headL ascOK
      rw [l1]
      cases l with
      | nil => simp
      | cons a l => simp [headOK_ne (k := 3) (by decide) (by decide) (by decide) a]
    rw [e]
    clear hn hw hp hs hr hk hk39 e
    go_enter Tryz.func68, Tryz.ntmps68
    go_wp2_with fail
    all_goals
      go_ret
      exact ⟨ret_b (by rw [Bool.eq_iff_iff]; simp; try omega), Below.refl _ _⟩
  by_cases k5 : k = 5
  · subst k5
    have e : parted (ord d) 5 l = ascL (ord d) (sel 1 l) := by
      unfold parted countOK headL ascOK
      cases l with
      | nil => simp [sel]
      | cons a l => simp [headOK_ne (k := 5) (by decide) (by decide) (by decide) a, sel]
    rw [e]
    clear hn hw hp hs hr hk hk39 e
    go_enter Tryz.func68, Tryz.ntmps68
    go_wp2_with fail
    refine (HA1.out _ (unhide HR)).mono ?_
    rintro e w4 ⟨rfl, hb⟩
    have HB := hide hb
    clear hb
    go_wp2_with fail
    go_ret
    exact ⟨rfl, unhide HB⟩
  by_cases k6 : k = 6
  · subst k6
    have e : parted (ord d) 6 l = (decide (n % 2 = 0) && ascL (ord d) (sel 2 l)) := by
      unfold parted countOK headL ascOK
      rw [l1]
      cases l with
      | nil => simp [sel]
      | cons a l => simp [headOK_ne (k := 6) (by decide) (by decide) (by decide) a, sel]
    rw [e]
    clear hn hw hp hs hr hk hk39 e
    by_cases h2 : n % 2 = 0
    · have g7 : ((n : Int) % 2 == 0) = true := by rw [beq_iff_eq]; omega
      have h3 : (n : Int) % 2 = 0 := by omega
      go_enter Tryz.func68, Tryz.ntmps68
      go_wp2_with fail
      refine (HA2.out _ (unhide HR)).mono ?_
      rintro e w4 ⟨rfl, hb⟩
      have HB := hide hb
      clear hb
      go_wp2_with fail
      go_ret
      exact ⟨ret_b (by simp [h2]), unhide HB⟩
    · have g7 : ((n : Int) % 2 == 0) = false := beq_eq_false_iff_ne.2 (by omega)
      have h3 : ¬ (n : Int) % 2 = 0 := by omega
      go_enter Tryz.func68, Tryz.ntmps68
      go_wp2_with fail
      go_ret
      exact ⟨ret_b (by simp; omega), Below.refl _ _⟩
  by_cases k4 : k = 4
  · subst k4
    have e : parted (ord d) 4 l = true := by
      unfold parted countOK headL ascOK
      cases l with
      | nil => simp
      | cons a l => simp [headOK_ne (k := 4) (by decide) (by decide) (by decide) a]
    rw [e]
    clear hn hw hp hs hr hk hk39 e
    go_enter Tryz.func68, Tryz.ntmps68
    go_wp2_with fail
    go_ret
    exact ⟨rfl, Below.refl _ _⟩
  have hk789 : k = 7 ∨ k = 8 ∨ k = 9 := by
    have h3 : k.toNat ≠ 3 := fun q => k3 (UInt8.toNat_inj.1 q)
    have h4 : k.toNat ≠ 4 := fun q => k4 (UInt8.toNat_inj.1 q)
    have h5 : k.toNat ≠ 5 := fun q => k5 (UInt8.toNat_inj.1 q)
    have h6 : k.toNat ≠ 6 := fun q => k6 (UInt8.toNat_inj.1 q)
    have : k.toNat = 7 ∨ k.toNat = 8 ∨ k.toNat = 9 := by omega
    rcases this with h | h | h
    · exact .inl (UInt8.toNat_inj.1 h)
    · exact .inr (.inl (UInt8.toNat_inj.1 h))
    · exact .inr (.inr (UInt8.toNat_inj.1 h))
  clear k3 k4 k5 k6 hk39 HA1 HA2
  cases l with
  | nil =>
    simp at l1
    subst l1
    rcases hk789 with rfl | rfl | rfl
    all_goals
      clear hn hw hp hs hr hk
      go_enter Tryz.func68, Tryz.ntmps68
      go_wp2_with fail
      all_goals
        go_ret
        exact ⟨rfl, Below.refl _ _⟩
  | cons a l =>
    obtain ⟨u, hu⟩ : ∃ u, ps[0]? = some u := ⟨ps[0]'(by simp at l1; omega), List.getElem?_eq_getElem _⟩
    have hwa : wf d a = true := by simp only [List.all_cons, Bool.and_eq_true] at hw; exact hw.1
    have hua := part_at hp (i := 0) rfl hu
    have hzu := hs u (List.mem_of_getElem? hu)
    obtain ⟨hu0, k0⟩ := enc_first (r := []) hwa (by rw [hua, List.append_nil])
    have e1 : u[0] = a.kind := by rw [bs_get u 0 hu0] at k0; exact Option.some.inj k0
    have wk : wrap64 (a.kind.toNat : Int) = (a.kind.toNat : Int) := IntWalk.wrap64_in _ (by have := a.kind.toNat_lt; omega)
    have HSM := Lib.hid (fun lo hi w => small_any d u a lo hi hwa hua hzu w)
    obtain ⟨b5, o5, hA1, hb5, hc5⟩ := at1s hr (i := 0) (u := .string u) (by rw [List.getElem?_map, hu]; rfl)
    subst hA1
    rw [Nat.add_zero] at hc5
    have hn0 : 1 ≤ n := by simp at l1; omega
    have hl1 : (a :: l).length = n := l1
    clear l1 hn hw hp hs hr hk hu k0 HR
    rcases hk789 with rfl | rfl | rfl
    · have e : parted (ord d) 7 (a :: l) = (decide (n ≤ 9) && headOK 7 a) := by
        unfold parted countOK headL ascOK
        rw [hl1]
        simp [hn0]
      rw [e]
      clear e hl1 HSM
      by_cases h9 : n ≤ 9
      · go_enter Tryz.func68, Tryz.ntmps68
        go_wp2_with fail
        go_ret
        exact ⟨ret_b (by rw [head7 hwa, decide_eq_true h9]; rfl), Below.refl _ _⟩
      · go_enter Tryz.func68, Tryz.ntmps68
        go_wp2_with fail
        go_ret
        exact ⟨ret_b (by have : decide (n ≤ 9) = false := decide_eq_false (by omega)
                         simp [this]), Below.refl _ _⟩
    · have e : parted (ord d) 8 (a :: l) = (decide (n ≤ 33) && smallV 0 65535 a) := by
        have : headOK 8 a = smallV 0 65535 a := by cases a <;> simp [headOK, smallV]
        unfold parted countOK headL ascOK
        rw [hl1, ← this]
        simp [hn0]
      rw [e]
      clear e hl1
      by_cases h33 : n ≤ 33
      · go_enter Tryz.func68, Tryz.ntmps68
        go_wp2_with fail
        refine (HSM.out 0 65535 _).mono ?_
        rintro e w4 ⟨rfl, rfl⟩
        go_wp2_with fail
        go_ret
        exact ⟨ret_b (by simp [h33]), Below.refl _ _⟩
      · go_enter Tryz.func68, Tryz.ntmps68
        go_wp2_with fail
        go_ret
        exact ⟨ret_b (by have : decide (n ≤ 33) = false := decide_eq_false (by omega)
                         simp [this]), Below.refl _ _⟩
    · have e : parted (ord d) 9 (a :: l) = smallV 1 21 a := by
        have : headOK 9 a = smallV 1 21 a := by cases a <;> simp [headOK, smallV]
        unfold parted countOK headL ascOK
        rw [hl1, ← this]
        simp [hn0]
      rw [e]
      clear e hl1
      go_enter Tryz.func68, Tryz.ntmps68
      go_wp2_with fail
      refine (HSM.out 1 21 _).mono ?_
      rintro e w4 ⟨rfl, rfl⟩
      go_wp2_with fail
      go_ret
      exact ⟨rfl, Below.refl _ _⟩

/-- the reference's walk with its check is the model's reading -/
theorem walk_checked (d : Nat) (h : d ≤ 33) : WkCon true d := by
  induction d with
  | zero => exact walk_zero true
  | succ d ih => exact walk_up true d (by omega) (ih (by omega)) (fun _ => parted_any d (by omega))

end Go.Proofs.YtaambeficfiacaaGreatDoor
