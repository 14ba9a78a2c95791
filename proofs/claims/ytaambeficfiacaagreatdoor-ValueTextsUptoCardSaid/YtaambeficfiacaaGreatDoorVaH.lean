/- end, fits and Valid: the program reads values as the model does. Condition: at most 1048576 bytes, but for Valid and fits: 2^48. -/
import Derived.Test.YtaambeficfiacaaGreatDoorVaG
namespace Go.Proofs.YtaambeficfiacaaGreatDoor
open Go.RowKit VM

theorem simple_not {k : UInt8} (h : simpleB k = false) : k ≠ 1 ∧ k ≠ 2 ∧ k ≠ 10 := by
  unfold simpleB at h
  simpa using h
theorem dec_not {d : Nat} {k : UInt8} {r : List UInt8} (h : simpleB k = false) (hc : isComp k = false ∨ r.length < 2) : dec (d + 1) (k :: r) = none := by
  obtain ⟨h1, h2, h3⟩ := simple_not h
  unfold dec
  rw [if_neg h1, if_neg h2, if_neg h3]
  rcases hc with hc | hc
  · rw [if_neg (by rw [hc]; simp)]
  · split
    · match r, hc with
      | [], _ => rfl
      | [a], _ => rfl
      | a :: b :: r, hc => exact absurd hc (by simp)
    · rfl
set_option maxRecDepth 100000 in
set_option maxHeartbeats 6400000 in
theorem end_up (d : Nat) (hd : d ≤ 1000) (ih : EndCon d) : EndCon (d + 1) := by
  intro s p w hb hp
  have HIH := Lib.hid ih
  have gd : ((d : Int) + 1 == 0) = false := beq_eq_false_iff_ne.2 (by omega)
  cases hdr : (bs s).drop p with
  | nil =>
    have hle : s.size ≤ p := by have := congrArg List.length hdr; rw [List.length_drop, bs_size] at this; simp at this; omega
    have he : endD (dec (d + 1) ([] : List UInt8)) s.size = -1 := rfl
    rw [he]
    clear hdr he ih gd
    go_enter Tryz.func43, Tryz.ntmps43
    go_wp2_with fail
    all_goals
      go_ret
      exact ⟨rfl, Below.refl _ _⟩
  | cons k r =>
    obtain ⟨h1, h2, h3, h4⟩ := drop_of hdr
    have e1 : s[p]'h1 = k := by rw [bs_get s p h1] at h3; exact Option.some.inj h3
    have wk : wrap64 (k.toNat : Int) = (k.toNat : Int) := IntWalk.wrap64_in _ (by have := k.toNat_lt; omega)
    have HS := Lib.hid (fun w => simple_any k w)
    cases hsk : simpleB k with
    | true =>
      have HE := Lib.hid (fun w => simpleEnd_any s p k r d hsk hdr hb w)
      rw [hsk] at HS
      generalize endD (dec (d + 1) (k :: r)) s.size = z at *
      clear hdr h2 h3 h4 ih hsk
      go_enter Tryz.func43, Tryz.ntmps43
      go_wp2_with fail
      refine (HS.out _).mono ?_
      rintro e w1 ⟨rfl, rfl⟩
      go_wp2_with fail
      refine (HE.out _).mono ?_
      rintro e w2 ⟨rfl, rfl⟩
      go_wp2_with fail
      go_ret
      exact ⟨rfl, Below.refl _ _⟩
    | false =>
      rw [hsk] at HS
      by_cases hc : isComp k = true ∧ 2 ≤ r.length
      · obtain ⟨hc1, hc2⟩ := hc
        obtain ⟨a, b, r', rfl⟩ : ∃ a b r', r = a :: b :: r' := by
          match r, hc2 with
          | a :: b :: r', _ => exact ⟨a, b, r', rfl⟩
        have HE := Lib.hid (fun w => ce_any d ih hd s p k a b r' hdr hc1 hb w)
        have hk39 : 3 ≤ k.toNat ∧ k.toNat ≤ 9 := by unfold isComp at hc1; exact of_decide_eq_true hc1
        have hp3 : p + 3 ≤ s.size := by simp at h2; omega
        generalize endD (dec (d + 1) (k :: a :: b :: r')) s.size = z at *
        clear hdr h2 h3 h4 ih hsk hc1 hc2
        go_enter Tryz.func43, Tryz.ntmps43
        go_wp2_with fail
        refine (HS.out _).mono ?_
        rintro e w1 ⟨rfl, rfl⟩
        go_wp2_with fail
        refine (HE.out _).mono ?_
        rintro e w2 ⟨rfl, hb2⟩
        have HB2 := hide hb2
        clear hb2
        go_wp2_with fail
        go_ret
        exact ⟨rfl, unhide HB2⟩
      · have he : dec (d + 1) (k :: r) = none := dec_not hsk (by
          by_cases q : isComp k = true
          · exact .inr (Nat.lt_of_not_le fun z => hc ⟨q, z⟩)
          · exact .inl (by simpa using q))
        have hcc : ¬ (3 ≤ k.toNat ∧ k.toNat ≤ 9) ∨ s.size < p + 3 := by
          by_cases q : isComp k = true
          · right; have : ¬ 2 ≤ r.length := fun z => hc ⟨q, z⟩; omega
          · left; unfold isComp at q; simpa using q
        rw [he]
        clear hdr h2 h3 h4 ih hsk hc he
        go_enter Tryz.func43, Tryz.ntmps43
        go_wp2_with fail
        refine (HS.out _).mono ?_
        rintro e w1 ⟨rfl, rfl⟩
        go_wp2_with fail
        all_goals first
          | (exfalso; omega)
          | (go_ret; exact ⟨rfl, Below.refl _ _⟩)
theorem end_any : ∀ d, d ≤ 1000 → EndCon d
  | 0, _ => by
    intro s p w hb hp
    have he : endD (dec 0 ((bs s).drop p)) s.size = -1 := rfl
    rw [he]
    clear he
    go_enter Tryz.func43, Tryz.ntmps43
    go_wp2_with fail
    all_goals
      go_ret
      exact ⟨rfl, Below.refl _ _⟩
  | d + 1, h => end_up d (by omega) (end_any d (by omega))
/-- is the string a value that is nested at most d deep? -/
def valB (d : Nat) (s : ByteArray) : Bool := decide (s.size ≤ 131072) && (match dec d (bs s) with
  | some (_, []) => true
  | _ => false)
theorem valB_end {d : Nat} {s : ByteArray} : (endD (dec d (bs s)) s.size == (s.size : Int)) = (match dec d (bs s) with
  | some (_, []) => true
  | _ => false) := by
  cases h : dec d (bs s) with
  | none => exact beq_eq_false_iff_ne.2 (by show (-1 : Int) ≠ _; omega)
  | some q =>
    obtain ⟨v, r⟩ := q
    have h1 := congrArg List.length (dec_ok d _ _ _ h).1
    rw [bs_size, List.length_append] at h1
    have h2 := enc_pos v (dec_ok d _ _ _ h).2
    cases r with
    | nil => exact beq_iff_eq.2 (by show ((s.size - 0 : Nat) : Int) = _; rfl)
    | cons b r => exact beq_eq_false_iff_ne.2 (by show ((s.size - (r.length + 1) : Nat) : Int) ≠ _; simp at h1; omega)
set_option maxRecDepth 100000 in
set_option maxHeartbeats 1600000 in
theorem fits_any (d : Nat) (hd : d ≤ 1000) (s : ByteArray) (hs : s.size ≤ 281474976710656) (w : World) :
    Calls Tryz.prog 46 #[.string s, .int .i64 (d : Int)] w fun e w' => e = .returned (.bool (valB d s)) ∧ Below w.heap.size w w' := by
  by_cases hb : s.size ≤ 131072
  · have HE := Lib.hid (fun w => end_any d hd s 0 w (by omega) (by omega))
    have hv : valB d s = (endD (dec d (bs s)) s.size == (s.size : Int)) := by
      rw [valB_end]; unfold valB; rw [decide_eq_true hb, Bool.true_and]
    rw [List.drop_zero] at HE
    rw [hv]
    generalize endD (dec d (bs s)) s.size = z at *
    clear hv
    go_enter Tryz.func46, Tryz.ntmps46
    go_wp2_with fail
    refine (HE.out _).mono ?_
    rintro e w2 ⟨rfl, hb2⟩
    have HB2 := hide hb2
    clear hb2
    go_wp2_with fail
    go_ret
    exact ⟨rfl, unhide HB2⟩
  · have hv : valB d s = false := by unfold valB; rw [decide_eq_false hb]; rfl
    rw [hv]
    clear hv
    go_enter Tryz.func46, Tryz.ntmps46
    go_wp2_with fail
    all_goals
      go_ret
      exact ⟨rfl, Below.refl _ _⟩
set_option maxHeartbeats 1600000 in
theorem valid_any (s : ByteArray) (hs : s.size ≤ 281474976710656) (w : World) :
    Calls Tryz.prog 26 #[.string s] w fun e w' => e = .returned (.bool (valB 32 s)) ∧ Below w.heap.size w w' := by
  have C := hide (fits_any 32 (by decide) s hs w)
  generalize valB 32 s = z at *
  go_enter Tryz.func26, Tryz.ntmps26
  go_wp2_with fail
  refine (unhide C).mono ?_
  rintro e w2 ⟨rfl, hb2⟩
  have HB2 := hide hb2
  clear hb2
  go_wp2_with fail
  go_ret
  exact ⟨rfl, unhide HB2⟩

end Go.Proofs.YtaambeficfiacaaGreatDoor
