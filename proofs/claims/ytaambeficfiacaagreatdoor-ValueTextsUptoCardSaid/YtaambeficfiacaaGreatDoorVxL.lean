/- ValueTexts returns true: the text that the package writes of a value is the one that the reference writes, of whatever string and names. Conditions: the string has at most 2^48 bytes; at most 1048576 names of at most 1048576 bytes each; the table of powers of ten is as the text lays it. -/
import Derived.Test.YtaambeficfiacaaGreatDoorVxU
import Derived.Lib.ItoaLen
import Derived.Test.YtaambeficfiacaaGreatDoorVgC
import Derived.Test.YtaambeficfiacaaGreatDoorEvD
namespace Go.Proofs.YtaambeficfiacaaGreatDoor
open Go.RowKit VM

theorem numL_bounds {l : List UInt8} (hl : l.length = 8) : -9223372036854775808 ≤ numL l ∧ numL l ≤ 9223372036854775807 := by
  unfold numL signed
  have := natL_lt l
  rw [hl] at this
  split <;> omega
theorem textsV_len (ns : List ByteArray) (k : UInt8) : ∀ (l : List V), (∀ v ∈ l, (textV ns v).length + 4 ≤ 1048600 * (enc v).length) → ∀ i, (textsV ns k i l).length ≤ 1048600 * (encs l).length
  | [], _, i => by unfold textsV; simp
  | v :: r, h, i => by
    have h1 := h v (by simp)
    have h2 := textsV_len ns k r (fun u hu => h u (by simp [hu])) (i + 1)
    have hs : (if i = 0 then ([] : List UInt8) else sepT k i).length ≤ 4 := by
      split
      · simp
      · unfold sepT
        split
        · simp
        · split <;> simp
    show ((if i = 0 then [] else sepT k i) ++ textV ns v ++ textsV ns k (i + 1) r).length ≤ 1048600 * (enc v ++ encs r).length
    rw [List.length_append, List.length_append, List.length_append]
    omega
theorem opn_len (k : UInt8) : (opnT k).length ≤ 5 := by
  unfold opnT
  split
  · simp
  · split
    · simp
    · split
      · simp
      · split
        · simp
        · split
          · simp
          · split <;> simp
theorem cls_len (k : UInt8) : (clsT k).length ≤ 2 := by
  unfold clsT
  split
  · simp
  · split
    · simp
    · split
      · simp
      · split
        · simp
        · split
          · simp
          · split <;> simp
theorem textV_len (ns : List ByteArray) (hns : ∀ s ∈ ns, s.size ≤ 1048576) : ∀ d v, wf d v = true → (textV ns v).length + 4 ≤ 1048600 * (enc v).length := by
  intro d
  induction d with
  | zero => intro v h; cases v <;> (unfold wf at h; cases h)
  | succ d ih =>
    intro v h
    cases v with
    | int l =>
      unfold wf at h
      have hl := of_decide_eq_true h
      have hb := numL_bounds hl
      have := Go.Lib.itoa_length_le (numL l) hb.1 hb.2
      show (Go.Lib.itoa (numL l)).length + 4 ≤ 1048600 * (1 :: l).length
      rw [List.length_cons, hl]
      omega
    | bool b =>
      show (boolT (decide (b = 1))).length + 4 ≤ 1048600 * 2
      unfold boolT
      split <;> simp
    | name a b =>
      show (nameT ns (a.toNat * 256 + b.toNat)).length + 4 ≤ 1048600 * 3
      unfold nameT
      split
      · rename_i s hs
        have := hns s (List.mem_of_getElem? hs)
        show s.data.toList.length + 4 ≤ _
        have e : s.data.toList.length = s.size := by simp
        omega
      · have ha := a.toNat_lt
        have hb := b.toNat_lt
        have := Go.Lib.itoa_length_le ((a.toNat * 256 + b.toNat : Nat) : Int) (by omega) (by omega)
        rw [List.length_cons]
        omega
    | comp k l =>
      have hall := wf_parts h
      have h1 := textsV_len ns k l (fun v hv => ih v (List.all_eq_true.1 hall v hv)) 0
      have h2 := opn_len k
      have h3 := cls_len k
      show (opnT k ++ textsV ns k 0 l ++ clsT k).length + 4 ≤ 1048600 * (k :: UInt8.ofNat (l.length / 256) :: UInt8.ofNat l.length :: encs l).length
      rw [List.length_append, List.length_append, List.length_cons, List.length_cons, List.length_cons]
      omega
theorem textV_short {ns : List ByteArray} (hns : ∀ s ∈ ns, s.size ≤ 1048576) {s : ByteArray} (h : valB 32 s = true) : (textV ns (treeB s)).length ≤ 70368744170000 := by
  have ht := tree_val (Nat.le_refl _) h
  have h1 := textV_len ns hns 32 (treeB s) ht.1
  have h2 : (bs s).length = s.size := by unfold bs; simp
  rw [ht.2.1] at h2
  have h3 := ht.2.2
  omega
theorem part_le {v : V} : ∀ {l : List V}, v ∈ l → (enc v).length ≤ (encs l).length
  | _ :: _, .head _ => by
    show _ ≤ (enc _ ++ encs _).length
    rw [List.length_append]; omega
  | _ :: _, .tail _ h => by
    have := part_le h
    show _ ≤ (enc _ ++ encs _).length
    rw [List.length_append]; omega
theorem parts_small {d : Nat} {k : UInt8} {l : List V} {s : ByteArray} (hw : wf (d + 1) (.comp k l) = true) (hs : bs s = enc (.comp k l)) (hz : s.size ≤ 131072) (ps : List ByteArray) (hp : ps.map bs = l.map enc) : (∀ s ∈ ps, s.size ≤ 131072) ∧ ps.length ≤ 65535 := by
  have hl : l.length < 65536 := by
    unfold wf at hw
    simp only [Bool.and_eq_true, decide_eq_true_eq] at hw
    exact hw.2.1
  have hlen : ps.length = l.length := by have := congrArg List.length hp; simpa using this
  refine ⟨fun u hu => ?_, by omega⟩
  have h2 : (bs s).length = s.size := by unfold bs; simp
  have h3 : (bs u).length = u.size := by unfold bs; simp
  have hm : bs u ∈ l.map enc := by rw [← hp]; exact List.mem_map_of_mem hu
  obtain ⟨v, hv, he⟩ := List.mem_map.1 hm
  have h4 := part_le hv
  have h5 : (enc (.comp k l)).length = (encs l).length + 3 := rfl
  rw [← he] at h3
  rw [hs] at h2
  omega
theorem rt_any (ns : List ByteArray) (nn cn : Nat) (hnn : nn = ns.length) : ∀ d, d ≤ 32 → RtCon ns nn cn d := by
  intro d
  induction d with
  | zero => intro _ v s W An h; cases v <;> (unfold wf at h; cases h)
  | succ d ih =>
    intro hd v s W An hw hs hz hN hlen
    have hv := val_of hd hw hs hz
    have IH := ih (by omega)
    cases v with
    | int l =>
      unfold wf at hw
      exact rtext_int s ns nn cn l (of_decide_eq_true hw) hv hz W An hN
    | bool b =>
      unfold wf at hw
      have hb := of_decide_eq_true hw
      by_cases h1 : b = 1
      · subst h1; exact rtext_b1 s ns nn cn hv hz W An hN
      · have h0 : b = 0 := by
          apply UInt8.toNat_inj.1
          have : b.toNat ≠ (1 : UInt8).toNat := fun q => h1 (UInt8.toNat_inj.1 q)
          have e1 : (1 : UInt8).toNat = 1 := rfl
          have e0 : (0 : UInt8).toNat = 0 := rfl
          omega
        subst h0; exact rtext_b0 s ns nn cn hv hz W An hN
    | name a b =>
      cases hq : ns[a.toNat * 256 + b.toNat]? with
      | some u => exact rtext_name_yes s ns nn cn a b u hq hv hz W An hN hnn
      | none => exact rtext_name_no s ns nn cn a b hq hv hz W An hN hnn
    | comp k l =>
      have hps := parts_small hw hs hz
      have hall : ∀ v ∈ l, wf d v = true := fun v hv => List.all_eq_true.1 (wf_parts hw) v hv
      have hev : k = 6 → l.length % 2 = 0 := by
        intro h6
        subst h6
        unfold wf parted countOK at hw
        simp only [Bool.and_eq_true, decide_eq_true_eq] at hw
        have := hw.2.2.2.1
        simpa using this
      have hk : 3 ≤ k.toNat ∧ k.toNat ≤ 9 := by
        unfold wf isComp at hw
        simp only [Bool.and_eq_true, decide_eq_true_eq] at hw
        exact hw.1
      have hc : k = 3 ∨ k = 4 ∨ k = 5 ∨ k = 6 ∨ k = 7 ∨ k = 8 ∨ k = 9 := by
        have q : ∀ m : UInt8, k.toNat = m.toNat → k = m := fun m h => UInt8.toNat_inj.1 h
        have h3 : k.toNat = 3 ∨ k.toNat = 4 ∨ k.toNat = 5 ∨ k.toNat = 6 ∨ k.toNat = 7 ∨ k.toNat = 8 ∨ k.toNat = 9 := by omega
        rcases h3 with h | h | h | h | h | h | h
        · exact .inl (q 3 h)
        · exact .inr (.inl (q 4 h))
        · exact .inr (.inr (.inl (q 5 h)))
        · exact .inr (.inr (.inr (.inl (q 6 h))))
        · exact .inr (.inr (.inr (.inr (.inl (q 7 h)))))
        · exact .inr (.inr (.inr (.inr (.inr (.inl (q 8 h))))))
        · exact .inr (.inr (.inr (.inr (.inr (.inr (q 9 h))))))
      rcases hc with rfl | rfl | rfl | rfl | rfl | rfl | rfl
      · exact rtext_c3 s ns nn cn d IH l hall hps hv hz W An hN hlen
      · exact rtext_c4 s ns nn cn d IH l hall hps hv hz W An hN hlen
      · exact rtext_c5 s ns nn cn d IH l hall hps hv hz W An hN hlen
      · exact rtext_c6 s ns nn cn d IH l hall (hev rfl) hps hv hz W An hN hlen
      · exact rtext_c7 s ns nn cn d IH l hall hps hv hz W An hN hlen
      · exact rtext_c8 s ns nn cn d IH l hall hps hv hz W An hN hlen
      · exact rtext_c9 s ns nn cn d IH l hall hps hv hz W An hN hlen
set_option linter.unusedSimpArgs false in
set_option maxRecDepth 100000 in
set_option maxHeartbeats 3200000 in
theorem rtext_any (s : ByteArray) (hs : s.size ≤ 281474976710656) (An : Option Addr) (nn cn : Nat) (ns : List ByteArray) (hnn : nn = ns.length) (hns : ∀ s ∈ ns, s.size ≤ 1048576) (w : World) (hN : InC w An (ns.map Value.string)) :
    Calls Tryz.prog 8 #[.string s, .slice An nn cn] w fun e w' => e = .returned (.string (textB ns s)) ∧ Below w.heap.size w w' := by
  cases hv : valB 32 s with
  | true =>
    have ht := tree_val (Nat.le_refl _) hv
    have := rt_any ns nn cn hnn 32 (Nat.le_refl _) (treeB s) s w An ht.1 ht.2.1 ht.2.2 hN (textV_short hns hv)
    unfold textB
    rwa [if_pos hv]
  | false =>
    have HM : Hid (textB ns s = ⟨#[]⟩) := Lib.hid (by unfold textB; rw [hv]; rfl)
    have HV := Lib.hid (fun w => rvalid_any s hs w)
    have HK := Lib.hid (fun w => rkind_any s hs w)
    have hkm : kindM s = 0 := by unfold kindM; rw [hv]; rfl
    rw [hkm] at HK
    rw [hv] at HV
    have HP : ∀ w, Calls Tryz.prog 28 #[.string s] w fun e w' => e = .returned (.slice none 0 0) ∧ Below w.heap.size w w' := by
      intro w
      clear HM HK hkm hv hN hs hns hnn
      go_enter Tryz.func28, Tryz.ntmps28
      go_wp2_with fail
      refine (HV.out _).mono ?_
      rintro e w1 ⟨rfl, hb1⟩
      have HB1 := hide hb1
      clear hb1
      go_wp2_with fail
      go_ret
      exact ⟨rfl, unhide HB1⟩
    have HPP := Lib.hid HP
    clear HP HV hkm hv hN hs hns hnn
    go_enter Tryz.func8, Tryz.ntmps8
    go_wp2_with fail
    refine (HPP.out _).mono ?_
    rintro e w1 ⟨rfl, hb1⟩
    have HB1 := hide hb1
    clear hb1
    go_wp2_with fail
    refine (HK.out _).mono ?_
    rintro e w2 ⟨rfl, hb2⟩
    have HB2 := hide ((unhide HB1).trans (hb2.mono (unhide HB1).size))
    clear hb2 HB1
    go_wp2_with fail
    go_ret
    exact ⟨by rw [HM.out]; rfl, unhide HB2⟩

end Go.Proofs.YtaambeficfiacaaGreatDoor
namespace Go.Proofs.YtaambeficfiacaaGreatDoor
open Go Go.RowKit VM

theorem vawake_run : Ev.valOf (Ev.runC Tryz.prog 100000 .leaf 6 []) = some (.bool true) := by kernel_rfl
theorem vawake_any (w : World) : Calls Tryz.prog 6 #[] w fun e w' => e = .returned (.bool true) ∧ Below w.heap.size w w' :=
  Ev.calls_of_run (P := Tryz.prog) (by kernel_rfl) (args := []) rfl vawake_run w
theorem tl_self (s : ByteArray) : (s.toList == s.toList) = true := beq_self_eq_true _
/-- both texts, whatever the world is by then -/
structure TxOK (An : Option Addr) (nn cn : Nat) (ns : List ByteArray) (s : ByteArray) (t : ByteArray) : Prop where
  p : ∀ w, WEnv w An nn ns → Calls Tryz.prog 7 #[.string s, .slice An nn cn] w fun e w' => e = .returned (.string t) ∧ Below w.heap.size w w'
  r : ∀ w, WEnv w An nn ns → Calls Tryz.prog 8 #[.string s, .slice An nn cn] w fun e w' => e = .returned (.string t) ∧ Below w.heap.size w w'
theorem tx_ok (An : Option Addr) (nn cn : Nat) (ns : List ByteArray) (hnn : nn = ns.length) (hns : ∀ s ∈ ns, s.size ≤ 1048576) (s : ByteArray) (hs : s.size ≤ 281474976710656) : TxOK An nn cn ns s (textB ns s) :=
  ⟨fun w hE => ptext_any s hs An nn cn ns w hE (fun h => textV_short hns h), fun w hE => rtext_any s hs An nn cn ns hnn hns w hE.row⟩
theorem WEnv.below {w w' : World} {An : Option Addr} {nn : Nat} {ns : List ByteArray} (h : WEnv w An nn ns) (hb : Below w.heap.size w w') : WEnv w' An nn ns :=
  ⟨(Go.Lib.tabBelow_of_tabIs h.tab) w' hb, h.len, h.le, h.sz, h.row.below hb⟩
theorem WEnv.lit {w : World} {An : Option Addr} {nn : Nat} {ns : List ByteArray} (h : WEnv w An nn ns) (a b : ByteArray) (ha : a.size ≤ 1048576) (hb : b.size ≤ 1048576) :
    WEnv (w.alloc (.cells #[.string a, .string b] 9)) (some ⟨w.heap.size, 0, none⟩) 2 [a, b] :=
  ⟨(h.below ((Below.refl _ _).alloc (Nat.le_refl _) _)).tab, rfl, by decide, fun s hs => by
    rcases List.mem_cons.1 hs with rfl | hs
    · exact ha
    · rw [List.mem_singleton.1 hs]; exact hb, new_in w 9 #[.string a, .string b]⟩
set_option linter.unusedSimpArgs false in
set_option maxRecDepth 100000 in
set_option maxHeartbeats 6400000 in
theorem valueTexts_any (raw : ByteArray) (hraw : raw.size ≤ 281474976710656) (ns : List ByteArray) (An a1 : Option Addr) (n1 c1 nn cn : Nat) (h1 : n1 ≤ maxLen) (w : World) (hI : InInts w a1 n1) (hE : WEnv w An nn ns) :
    Calls Tryz.prog 3 #[.string raw, .slice a1 n1 c1, .slice An nn cn] w fun e w' => e = .returned (.bool true) ∧ Below w.heap.size w w' := by
  have HV := hide (value_st 4 (by decide) (by decide))
  have HT1 := Lib.hid (tx_ok An nn cn ns hE.len hE.sz raw hraw)
  have HT2 := Lib.hid (fun s hs => tx_ok An nn cn ns hE.len hE.sz s hs)
  have HT3 := Lib.hid (fun g s hs => tx_ok (some ⟨g, 0, none⟩) 2 2 [⟨#[97]⟩, ⟨#[98]⟩] rfl (by decide) s hs)
  generalize textB ns raw = t1 at *
  have HC0 := hide (CSt.start (c := c1) hI)
  have HB0 : Hid (Below w.heap.size w (w.alloc (.cells #[.slice a1 n1 c1, .int .i64 0] 32))) := hide ((Below.refl _ _).alloc (Nat.le_refl _) _)
  have HE := hide hE
  have HN1 := Lib.hid h1
  clear hI h1 hE hraw
  go_enter Tryz.func3, Tryz.ntmps3
  go_wp2_with fail
  refine (new_cho w a1 n1 c1).mono ?_
  rintro e w1 ⟨rfl, rfl⟩
  generalize w.alloc (.cells #[.slice a1 n1 c1, .int .i64 0] 32) = w1 at *
  obtain ⟨g0, hg0⟩ : ∃ g0, g0 = w.heap.size := ⟨_, rfl⟩
  rw [← hg0] at HC0 ⊢
  have hg0l : w.heap.size ≤ g0 := Nat.le_of_eq hg0.symm
  have HW : Hid (g0 = w.heap.size) := Lib.hid hg0
  clear hg0
  go_wp2_with fail
  refine ((unhide HV) 4 rfl w1 g0 a1 n1 c1 (unhide HC0) HN1.out).mono ?_
  rintro e w2 ⟨s, rfl, hs, hC2, hG2⟩
  have hss := hs.size (by decide)
  have hsz2 : s.size ≤ 281474976710656 := by omega
  have HT2s := Lib.hid (HT2.out s hsz2)
  have HT3s := Lib.hid (fun g => HT3.out g s hsz2)
  generalize textB ns s = t2 at *
  generalize textB [⟨#[97]⟩, ⟨#[98]⟩] s = t3 at *
  have HB2 := hide (below_grown (unhide HB0) hG2 hg0l (Nat.le_refl _))
  have HE2 := hide ((unhide HE).below (unhide HB2))
  clear hss hsz2 hs hC2 hG2 HB0 HC0 HT2 HT3 HV HE
  go_wp2_with fail
  refine (vawake_any _).mono ?_
  rintro e w3 ⟨rfl, hb3⟩
  have HB3 := hide ((unhide HB2).trans (hb3.mono (unhide HB2).size))
  have HE3 := hide ((unhide HE2).below hb3)
  clear hb3 HB2 HE2
  have q1 := tl_self t1
  have q2 := tl_self t2
  have q3 := tl_self t3
  go_wp2_with fail
  refine (HT1.out.p _ (unhide HE3)).mono ?_
  rintro e w4 ⟨rfl, hb4⟩
  have HB4 := hide ((unhide HB3).trans (hb4.mono (unhide HB3).size))
  have HE4 := hide ((unhide HE3).below hb4)
  clear hb4 HB3 HE3
  go_wp2_with fail
  refine (HT1.out.r _ (unhide HE4)).mono ?_
  rintro e w5 ⟨rfl, hb5⟩
  have HB5 := hide ((unhide HB4).trans (hb5.mono (unhide HB4).size))
  have HE5 := hide ((unhide HE4).below hb5)
  clear hb5 HB4 HE4
  go_wp2_with fail
  refine (HT2s.out.p _ (unhide HE5)).mono ?_
  rintro e w6 ⟨rfl, hb6⟩
  have HB6 := hide ((unhide HB5).trans (hb6.mono (unhide HB5).size))
  have HE6 := hide ((unhide HE5).below hb6)
  clear hb6 HB5 HE5
  go_wp2_with fail
  refine (HT2s.out.r _ (unhide HE6)).mono ?_
  rintro e w7 ⟨rfl, hb7⟩
  have HB7 := hide ((unhide HB6).trans (hb7.mono (unhide HB6).size))
  have HE7 := hide ((unhide HE6).below hb7)
  clear hb7 HB6 HE6
  have HL8 := hide ((unhide HE7).lit ⟨#[97]⟩ ⟨#[98]⟩ (by decide) (by decide))
  have HA8 := hide ((unhide HB7).alloc (unhide HB7).size (.cells #[.string ⟨#[97]⟩, .string ⟨#[98]⟩] 9))
  have HM8 := hide ((unhide HE7).below ((Below.refl _ _).alloc (Nat.le_refl _) (.cells #[.string ⟨#[97]⟩, .string ⟨#[98]⟩] 9)))
  go_wp2_with fail
  refine ((HT3s.out _).p _ (unhide HL8)).mono ?_
  rintro e w8 ⟨rfl, hb8⟩
  have HB8 := hide ((unhide HA8).trans (hb8.mono (unhide HA8).size))
  have HE8 := hide ((unhide HM8).below hb8)
  clear hb8 HA8 HM8 HL8 HB7 HE7
  have HL9 := hide ((unhide HE8).lit ⟨#[97]⟩ ⟨#[98]⟩ (by decide) (by decide))
  have HA9 := hide ((unhide HB8).alloc (unhide HB8).size (.cells #[.string ⟨#[97]⟩, .string ⟨#[98]⟩] 9))
  have HM9 := hide ((unhide HE8).below ((Below.refl _ _).alloc (Nat.le_refl _) (.cells #[.string ⟨#[97]⟩, .string ⟨#[98]⟩] 9)))
  go_wp2_with fail
  refine ((HT3s.out _).r _ (unhide HL9)).mono ?_
  rintro e w9 ⟨rfl, hb9⟩
  have HB9 := hide ((unhide HA9).trans (hb9.mono (unhide HA9).size))
  have HE9 := hide ((unhide HM9).below hb9)
  clear hb9 HA9 HM9 HL9 HB8 HE8
  go_wp2_with fail
  go_ret
  exact ⟨rfl, unhide HB9⟩

end Go.Proofs.YtaambeficfiacaaGreatDoor
