/- TypesCanon: a canonical type is its own canonical type, and two types have the same exactly if each matches the other. Conditions: lists have a length. -/
import Derived.Test.YtgdmmkgdnfkadaaDoorTyG
import Derived.Test.YtgdmmkgdnfkadaaDoorTyX6
import Derived.Test.YtgdmmkgdnfkadaaDoorTyAw
namespace Go.Proofs.YtgdmmkgdnfkadaaDoor
open Go.RowKit M

theorem itK_map2 {g : TN → TN} {f : List TN → Option (List TN)} (hf : ∀ ts, (∀ t ∈ ts, vN (g t) = vN t) → f (ts.map g) = (f ts).map (·.map g)) (hs : ∀ ts r, f ts = some r → ∀ t ∈ r, t ∈ ts) :
    ∀ n ts, (∀ t ∈ ts, vN (g t) = vN t) → itK f n (ts.map g) = (itK f n ts).map (·.map g) := by
  intro n
  induction n with
  | zero => intro ts _; rfl
  | succ n ih =>
    intro ts h
    unfold itK
    rw [hf ts h]
    cases hr : f ts with
    | none => rfl
    | some r => exact ih r fun t ht => h t (hs ts r hr t ht)
theorem bt_sub (d : Nat) (ts r : List TN) (h : bt d ts = some r) : ∀ t ∈ r, t ∈ ts := by
  intro t ht
  rw [bt_drop d ts r h] at ht
  exact List.mem_of_mem_drop ht
theorem bt_map2 {g : TN → TN} (hk : ∀ t, (g t).2.2 = t.2.2) : ∀ d ts, (∀ t ∈ ts, vN (g t) = vN t) → bt d (ts.map g) = (bt d ts).map (·.map g) := by
  intro d
  induction d with
  | zero => intro ts _; rfl
  | succ d ih =>
    intro ts h
    cases ts with
    | nil => rfl
    | cons t r =>
      show (if vN (g t) = true then itK (bt d) (g t).2.2.toNat (r.map g) else none) = (if vN t = true then itK (bt d) t.2.2.toNat r else none).map _
      rw [h t (by simp), hk]
      split
      · exact itK_map2 ih (bt_sub d) _ r fun u hu => h u (by simp [hu])
      · rfl
theorem canonN_kids (ts : List TN) (t : TN) : (canonN ts t).2.2 = t.2.2 := by unfold canonN; split <;> rfl
theorem vIdx_le (ts : List TN) (x : Int) : 0 ≤ vIdx ts x ∧ vIdx ts x ≤ ts.length := by
  unfold vIdx
  have h1 : (varsL ts).idxOf x ≤ (varsL ts).length := List.idxOf_le_length
  have h2 : (varsL ts).length ≤ ts.length := by have := varsL_len ts ts.length; rwa [List.take_length] at this
  omega
theorem canon_valid {ts : List TN} (h : valT ts = true) : valT (canonL ts) = true := by
  have hl := valT_len h
  have hv := nodes_valid h
  unfold valT at h ⊢
  simp only [Bool.and_eq_true, decide_eq_true_eq] at h ⊢
  refine ⟨by simpa [canonL] using hl, ?_⟩
  unfold canonL
  rw [bt_map2 (canonN_kids ts) 64 ts, h.2]
  · rfl
  · intro t ht
    rw [hv t ht]
    unfold canonN
    split
    · rename_i hk
      have h1 := hv t ht
      have h0 := vN_var h1 hk
      obtain ⟨a, b⟩ := vIdx_le ts t.2.1
      unfold vN
      simp only [true_or, if_true, h0, Bool.and_eq_true, decide_eq_true_eq, true_and]
      omega
    · exact hv t ht
theorem canV_valid {ts : List TN} (h : valT ts = true) : canV ts = canonL ts := by unfold canV; rw [h]; rfl
theorem canV_twice {ts : List TN} (h : valT ts = true) : canV (canonL ts) = canonL ts := by rw [canV_valid (canon_valid h), canon_twice]
theorem matM_iff {p q : List TN} (hp : valT p = true) (hq : valT q = true) : decide (canonL p = canonL q) = (matM p q && matM q p) := by
  have h := alike_iff (leaves_valid hp) (leaves_valid hq) (full_valid hp) (full_valid hq)
  have e1 : matM p q = mtch p q noE := by unfold matM; rw [hp, hq]; rfl
  have e2 : matM q p = mtch q p noE := by unfold matM; rw [hp, hq]; rfl
  rw [e1, e2, Bool.eq_iff_iff, decide_eq_true_eq, Bool.and_eq_true]
  exact h.symm
theorem typ3_3 : TypCon 3 3 := typ_up 2 3 (by decide) (by decide) (by decide) (typ_up 1 3 (by decide) (by decide) (by decide) (typ_one 3 (by decide)))
theorem row_cap {w : World} {b : Nat} {e : TypeId} {z n c : Nat} {A : Option Addr} {xs : List Value} (h : w.ownsRow b e z (.slice A n c) n xs) : n ≤ c := by
  rcases h.2 with ⟨q, hz⟩ | ⟨g', cap, cur, q, _, _, hc, _⟩
  · rw [hz]; exact Nat.zero_le _
  · injection q with q1 q2 q3
    rw [q3]; exact hc

set_option maxRecDepth 100000 in
set_option maxHeartbeats 12800000 in
theorem typesCanon_any (w : World) (A1 : Option Addr) (n1 c1 : Nat) (h1 : InInts w A1 n1) (hn1 : n1 ≤ maxLen) (A2 : Option Addr) (n2 c2 : Nat) (h2 : InInts w A2 n2) (hn2 : n2 ≤ maxLen) :
    Calls Tryd.prog 11 #[.slice A1 n1 c1, .slice A2 n2 c2] w fun e w' => e = .returned (.bool true) ∧ Below w.heap.size w w' := by
  have H1 := hide h1
  have H2 := hide h2
  have HN1 := Lib.hid hn1
  have HN2 := Lib.hid hn2
  clear h1 h2 hn1 hn2
  go_enter Tryd.func11, Tryd.ntmps11
  go_wp2_with fail
  refine (new_cho _ A1 n1 c1).mono ?_
  rintro e w1 ⟨rfl, hw1⟩
  have HC1 : Hid (CSt w1 w.heap.size A1 n1 c1) := by rw [hw1]; exact CSt.start (unhide H1)
  have HB1 : Hid (Below w.heap.size w w1) := by rw [hw1]; exact (Below.refl _ _).alloc (Nat.le_refl _) _
  clear hw1
  go_wp2_with fail
  refine (typ3_3 3 rfl w1 w.heap.size A1 n1 c1 (unhide HC1) HN1.out).mono ?_
  rintro e w2 ⟨v2, ps, rfl, hO2, hT2, hC2, hG2⟩
  obtain ⟨A3, c3, rfl⟩ := owns_form hO2
  have HB2 := hide (below_grown (unhide HB1) hG2 (Nat.le_refl _) (Nat.le_refl _))
  have HP2 := hide (InC.own hO2)
  have hpc := row_cap hO2
  have hpl : ps.length ≤ 512 := by have := hT2.2.1; omega
  have HVP := Lib.hid (valT_of (by decide : 3 ≤ 64) hT2.1 hpl)
  have H22 := hide ((unhide H2).below (unhide HB2))
  have hz2 := (unhide HB2).size
  clear hO2 hT2 hC2 hG2 HC1 HB1
  go_wp2_with fail
  refine (new_cho _ A2 n2 c2).mono ?_
  rintro e w3 ⟨rfl, hw3⟩
  have HC3 : Hid (CSt w3 w2.heap.size A2 n2 c2) := by rw [hw3]; exact CSt.start (unhide H22)
  have hb3 : Below w2.heap.size w2 w3 := by rw [hw3]; exact (Below.refl _ _).alloc (Nat.le_refl _) _
  have HB3 := hide ((unhide HB2).trans (hb3.mono hz2))
  have HK3 := hide hb3
  clear hw3 hb3
  go_wp2_with fail
  refine (typ3_3 3 rfl w3 w2.heap.size A2 n2 c2 (unhide HC3) HN2.out).mono ?_
  rintro e w4 ⟨v4, qs, rfl, hO4, hT4, hC4, hG4⟩
  obtain ⟨A4, c4, rfl⟩ := owns_form hO4
  have hK4 := below_grown (unhide HK3) hG4 (Nat.le_refl _) (Nat.le_refl _)
  have HB4 := hide (below_grown (unhide HB3) hG4 hz2 (Nat.le_refl _))
  have HP4 := hide ((unhide HP2).below hK4)
  have HQ4 := hide (InC.own hO4)
  have hqc := row_cap hO4
  have hql : qs.length ≤ 512 := by have := hT4.2.1; omega
  have HVQ := Lib.hid (valT_of (by decide : 3 ≤ 64) hT4.1 hql)
  have hpm := Lib.hid (show ps.length ≤ maxLen by unfold maxLen; omega)
  have hqm := Lib.hid (show qs.length ≤ maxLen by unfold maxLen; omega)
  clear hO4 hT4 hC4 hG4 hK4 HC3 HB3 HB2 HP2 HK3 H22
  go_wp2_with fail
  refine (canon_any w4 A3 ps.length c3 ps rfl hpm.out hpc (unhide HP4)).mono ?_
  rintro e w5 ⟨v5, rfl, hO5, hb5⟩
  rw [canV_valid HVP.out] at hO5
  have HB5 := hide ((unhide HB4).trans (hb5.mono (unhide HB4).size))
  have HP5 := hide ((unhide HP4).below hb5)
  have HQ5 := hide ((unhide HQ4).below hb5)
  obtain ⟨A5, c5, rfl⟩ := owns_form hO5
  have HX5 := hide (InC.own hO5)
  have hxc := row_cap hO5
  clear hO5 hb5 HB4 HP4 HQ4
  go_wp2_with fail
  refine (canon_any w5 A4 qs.length c4 qs rfl hqm.out hqc (unhide HQ5)).mono ?_
  rintro e w6 ⟨v6, rfl, hO6, hb6⟩
  rw [canV_valid HVQ.out] at hO6
  have HB6 := hide ((unhide HB5).trans (hb6.mono (unhide HB5).size))
  have HP6 := hide ((unhide HP5).below hb6)
  have HQ6 := hide ((unhide HQ5).below hb6)
  have HX6 := hide ((unhide HX5).below hb6)
  obtain ⟨A6, c6, rfl⟩ := owns_form hO6
  have HY6 := hide (InC.own hO6)
  clear hO6 hb6 HB5 HP5 HQ5 HX5
  go_wp2_with fail
  refine (match_any w6 A3 ps.length c3 ps rfl hpm.out hpc (unhide HP6) A4 qs.length c4 qs rfl hqm.out hqc (unhide HQ6)).mono ?_
  rintro e w7 ⟨v7, rfl, hb7⟩
  have HB7 := hide ((unhide HB6).trans (hb7.mono (unhide HB6).size))
  have HP7 := hide ((unhide HP6).below hb7)
  have HQ7 := hide ((unhide HQ6).below hb7)
  have HX7 := hide ((unhide HX6).below hb7)
  have HY7 := hide ((unhide HY6).below hb7)
  clear hb7 HB6 HP6 HQ6 HX6 HY6
  go_wp2_with fail
  refine (match_any w7 A4 qs.length c4 qs rfl hqm.out hqc (unhide HQ7) A3 ps.length c3 ps rfl hpm.out hpc (unhide HP7)).mono ?_
  rintro e w8 ⟨v8, rfl, hb8⟩
  have HB8 := hide ((unhide HB7).trans (hb8.mono (unhide HB7).size))
  have HX8 := hide ((unhide HX7).below hb8)
  have HY8 := hide ((unhide HY7).below hb8)
  have HMI := Lib.hid (matM_iff HVP.out HVQ.out)
  have hxl : (canonL ps).length ≤ 512 := by simp [canonL]; omega
  have hyl : (canonL qs).length ≤ 512 := by simp [canonL]; omega
  have HC2 := Lib.hid (canV_twice HVP.out)
  have hxm := Lib.hid (show (canonL ps).length ≤ maxLen by unfold maxLen; omega)
  clear hb8 HB7 HP7 HQ7 HX7 HY7
  generalize matM ps qs = bx at *
  generalize matM qs ps = by_ at *
  generalize canonL ps = xs at *
  generalize canonL qs = ys at *
  go_wp2_with fail
  refine (awake_any _).mono ?_
  rintro e w9 ⟨rfl, hb9⟩
  have HB9 := hide ((unhide HB8).trans (hb9.mono (unhide HB8).size))
  have HX9 := hide ((unhide HX8).below hb9)
  have HY9 := hide ((unhide HY8).below hb9)
  clear hb9 HB8 HX8 HY8
  go_wp2_with fail
  refine (canon_any w9 A5 xs.length c5 xs rfl hxm.out hxc (unhide HX9)).mono ?_
  rintro e w10 ⟨v10, rfl, hO10, hb10⟩
  rw [HC2.out] at hO10
  have HB10 := hide ((unhide HB9).trans (hb10.mono (unhide HB9).size))
  have HX10 := hide ((unhide HX9).below hb10)
  have HY10 := hide ((unhide HY9).below hb10)
  obtain ⟨A10, c10, rfl⟩ := owns_form hO10
  have HZ10 := hide (InC.own hO10)
  clear hO10 hb10 HB9 HX9 HY9
  go_wp2_with fail
  refine (hequal_any xs xs xs.length xs.length rfl rfl (by omega) A10 A5 c10 c5 w10 (unhide HZ10) (unhide HX10)).mono ?_
  rintro e w11 ⟨rfl, m11, rfl⟩
  have hdd : decide (xs = xs) = true := by simp
  rw [hdd]
  go_wp2_with fail
  refine (hequal_any xs ys xs.length ys.length rfl rfl (by omega) A5 A6 c5 c6 (w10.drewN m11) ((unhide HX10).drewN m11) ((unhide HY10).drewN m11)).mono ?_
  rintro e w12 ⟨rfl, m12, rfl⟩
  rw [HMI.out]
  clear HMI hdd
  cases bx <;> cases by_
  all_goals
    go_wp2_with fail
    go_ret
    exact ⟨rfl, below_drewN (unhide HB10) _⟩

end Go.Proofs.YtgdmmkgdnfkadaaDoor
