/- The reference's end and parts: where a type ends, and its children. Condition: at most 512 nodes. -/
import Derived.Test.YtcnanbmbdajcaaaDoorTyX3
import Derived.Test.YtcnanbmbdajcaaaDoorTyY0
namespace Go.Proofs.YtcnanbmbdajcaaaDoor
open Go.RowKit M

set_option maxRecDepth 100000 in
set_option maxHeartbeats 3200000 in
theorem rend_any (w : World) (A : Option Addr) (n c i z : Nat) (ts : List TN) (hn : n = ts.length) (hl : n ≤ 512) (hk : ∀ t ∈ ts, 0 ≤ t.2.2 ∧ t.2.2 ≤ 9) (hin : i ≤ n) (hz : szM 1 (ts.drop i) = some z) (hA : InC w A (ts.flatMap ndCells)) :
    Calls Tryd.prog 60 #[.slice A n c, .int .i64 i] w fun e w' => e = .returned (.int .i64 ((i + z : Nat) : Int)) ∧ w = w' := by
  have HA := hide hA
  have HN := Lib.hid hn
  have HK := Lib.hid hk
  have HZ : Hid (szM 1 ((ts.drop i).drop 0) = some (z - 0)) := hz
  have hzl : i + z ≤ n := by have := szM_le _ _ _ hz; rw [List.length_drop] at this; omega
  clear hA hn hk hz
  go_enter Tryd.func60, Tryd.ntmps60
  go_wp2_with fail
  go_loopw [1, 5] (fun sv mv wr => ∃ s m : Nat, sv = .int .i64 ((i + s : Nat) : Int) ∧ mv = .int .i64 m ∧ Hid (szM m ((ts.drop i).drop s) = some (z - s)) ∧ s ≤ z ∧ m ≤ 1 + 9 * s ∧ wr = w) (fun sv _ _ => i + z - (intOf sv).toNat)
  case atStart => exact ⟨0, 1, rfl, rfl, HZ.out, by omega, by omega, rfl⟩
  case round =>
    obtain ⟨s, m, rfl, rfl, hS, hsz, hm, rfl⟩ := hrel
    cases m with
    | zero =>
      have he : z = s := by have := hS.out; simp [szM] at this; omega
      subst he
      go_wp2_with fail
      go_ret
      exact ⟨rfl, rfl⟩
    | succ m =>
      obtain ⟨t, ht, h1, h2⟩ := szM_step hS.out hsz
      rw [List.getElem?_drop] at ht
      obtain ⟨hk0, hk9⟩ := HK.out t (List.mem_of_getElem? ht)
      obtain ⟨bb, off, rfl, hb, hcell⟩ := (unhide HA).elem nd_len ht (by decide)
      have x2 := hcell 2 _ rfl
      have H1 := Lib.hid h1
      obtain ⟨k, num, kids⟩ := t
      simp only at hk0 hk9 x2
      obtain ⟨kn, rfl⟩ := Int.eq_ofNat_of_zero_le hk0
      clear hcell ht h1
      go_wp2_with fail
      go_roundw
      case rel => exact ⟨s + 1, m + kn, by go_num, by go_num, by have h := H1.out; simp only [Int.toNat_natCast] at h; exact h, h2, by omega, trivial⟩
      case measure => simp [intOf]; omega

theorem lists_info : (Tryd.prog.info? 22).map (fun i => (i.zero, i.size, i.bytes)) = some (some (.slice none 0 0), 1, 24) := by kernel_rfl
/-- children: parts of a list in memory -/
structure Kids (w : World) (C : Nat) (ls : List TS) : Prop where
  full : ∀ p ∈ ls, Full 1 p.2.2
  inC : ∀ p ∈ ls, InC w p.1 (p.2.2.flatMap ndCells)
  cap : ∀ p ∈ ls, p.2.2.length ≤ p.2.1
theorem Kids.nil (w : World) (C : Nat) : Kids w C [] := ⟨fun p h => by simp at h, fun p h => by simp at h, fun p h => by simp at h⟩
theorem Kids.below {w w' : World} {C : Nat} {ls : List TS} (h : Kids w C ls) (hb : Below w.heap.size w w') : Kids w' C ls := ⟨h.full, fun p q => (h.inC p q).below hb, h.cap⟩
theorem Kids.drewN {w : World} {C : Nat} {ls : List TS} (h : Kids w C ls) (m : Nat) : Kids (w.drewN m) C ls := ⟨h.full, h.inC, h.cap⟩
theorem Kids.snoc {w : World} {C : Nat} {ls : List TS} (h : Kids w C ls) {p : TS} (h1 : Full 1 p.2.2) (h2 : InC w p.1 (p.2.2.flatMap ndCells)) (h3 : p.2.2.length ≤ p.2.1) : Kids w C (ls ++ [p]) := by
  refine ⟨fun q hq => ?_, fun q hq => ?_, fun q hq => ?_⟩ <;> rcases List.mem_append.1 hq with hq | hq
  · exact h.full q hq
  · simp at hq; subst hq; exact h1
  · exact h.inC q hq
  · simp at hq; subst hq; exact h2
  · exact h.cap q hq
  · simp at hq; subst hq; exact h3
def lsFlat (ls : List TS) : List TN := (ls.map (·.2.2)).flatten
theorem lsFlat_snoc (ls : List TS) (p : TS) : lsFlat (ls ++ [p]) = lsFlat ls ++ p.2.2 := by simp [lsFlat]
def PtPost (r : List TN) (kn : Nat) (w : World) (e : Ending) (w' : World) : Prop :=
  ∃ (A : Option Addr) (c : Nat) (ls : List TS), e = .returned (.slice A ls.length c) ∧ w'.ownsRow w.heap.size 22 1 (.slice A ls.length c) ls.length (ls.map tsV) ∧ Below w.heap.size w w' ∧ Kids w' 0 ls ∧ lsFlat ls = r ∧ ls.length = kn

set_option maxRecDepth 100000 in
set_option maxHeartbeats 6400000 in
theorem rparts_any (w : World) (A : Option Addr) (n c kn : Nat) (k num : Int) (r : List TN) (hn : n = r.length + 1) (hl : n ≤ 512) (hc : n ≤ c) (hk : ∀ t ∈ r, 0 ≤ t.2.2 ∧ t.2.2 ≤ 9) (hk9 : kn ≤ 9) (hf : Full kn r) (hA : InC w A (((k, num, (kn : Int)) :: r).flatMap ndCells)) :
    Calls Tryd.prog 49 #[.slice A n c] w (PtPost r kn w) := by
  have HA := hide hA
  have HN := Lib.hid hn
  have HK : Hid (∀ t ∈ (k, num, (kn : Int)) :: r, 0 ≤ t.2.2 ∧ t.2.2 ≤ 9) := Lib.hid fun t ht => by
    rcases List.mem_cons.1 ht with rfl | ht
    · exact ⟨by simp, by simp; omega⟩
    · exact hk t ht
  have HF : Hid (Full (kn - 0) (r.drop 0)) := hf
  obtain ⟨i0, hi0, hiz0, hiz1, hiz2⟩ := info_parts lists_info
  have hn1 : 1 ≤ n := by omega
  clear hA hk hf hn
  go_enter Tryd.func49, Tryd.ntmps49
  go_wp2_with fail
  go_loopw [3, 4, 5] (fun lv av kv wr => ∃ (j m : Nat) (ls : List TS), kv = .int .i64 j ∧ j ≤ kn ∧ av = .int .i64 ((m + 1 : Nat) : Int) ∧ m + 1 ≤ n ∧ ls.length = j ∧ Hid (wr.ownsRow w.heap.size 22 1 lv ls.length (ls.map tsV)) ∧ Hid (Kids w 0 ls) ∧ Hid (lsFlat ls = r.take m) ∧ Hid (Full (kn - j) (r.drop m)) ∧ Hid (InC wr A (((k, num, (kn : Int)) :: r).flatMap ndCells)) ∧ Hid (Below w.heap.size w wr)) (fun _ _ kv _ => kn - (intOf kv).toNat)
  case atStart => exact ⟨0, 0, [], rfl, by omega, rfl, by omega, rfl, World.ownsRow_nil _ _ _ _, Kids.nil _ _, rfl, HF.out, unhide HA, Below.refl _ _⟩
  case round =>
    obtain ⟨j, m, ls, rfl, hj, rfl, hm, hlj, hO, hY, hQ, hFu, hI, hB⟩ := hrel
    obtain ⟨A6, c6, rfl⟩ := owns_form hO.out
    have HLJ := Lib.hid hlj
    have hlj1 : ls.length ≤ j := by omega
    clear hlj
    obtain ⟨bb, off, rfl, hb, hcell⟩ := hI.out.elem nd_len (k := 0) (t := (k, num, (kn : Int))) rfl (by decide)
    have x2 := hcell 2 _ rfl
    simp only [Nat.zero_mul, Nat.add_zero] at x2
    clear hcell
    by_cases hjl : j < kn
    · obtain ⟨z, hz, z1, zl, hf2⟩ := full_first (n := kn - (j + 1)) (b := r.drop m) (by have := hFu.out; rwa [show kn - j = kn - (j + 1) + 1 by omega] at this)
      have HF2 : Hid (Full (kn - (j + 1)) (r.drop (m + z))) := Lib.hid (by rw [← List.drop_drop]; exact hf2)
      have HT : Hid (Full 1 ((r.drop m).take z)) := Lib.hid (szM_take _ _ _ hz)
      have HZ : Hid (szM 1 (((k, num, (kn : Int)) :: r).drop (m + 1)) = some z) := hz
      have hzn : m + 1 + z ≤ n := by have := HN.out; rw [List.length_drop] at zl; omega
      have htl : Hid (((r.drop m).take z).length = z) := Lib.hid (by rw [List.length_take]; omega)
      have HQ2 : Hid (lsFlat ls ++ (r.drop m).take z = r.take (m + z)) := Lib.hid (by rw [hQ.out, List.take_add])
      have hbz := hB.out.size
      have HC : Hid (InC w (some ⟨bb, off + (m + 1) * 3, none⟩) (((r.drop m).take z).flatMap ndCells)) := hide (by
        have q := cut_in (z := m + 1) (unhide HA) (show (((k, num, (kn : Int)) :: r)).length ≤ c by have := HN.out; simp; omega)
        rw [if_neg (by omega)] at q
        have q2 := q.take (z * 3)
        rw [← flat_take nd_len] at q2
        exact q2)
      clear hz zl hf2 hFu hQ
      go_wp2_with fail
      refine (rend_any wr _ n c (m + 1) z ((k, num, (kn : Int)) :: r) (by rw [HN.out]; rfl) hl HK.out hm HZ.out hI.out).mono ?_
      rintro e w8 ⟨rfl, rfl⟩
      go_wp2_with (at_builtin; refine wpList_app _ rfl _ _ 76 rfl w.heap.size 22 i0 _ 1 24 Tryd.underlying76 hi0 hiz0 hiz1 hiz2 rfl (by decide) _ ls.length (ls.map tsV) rfl (hO.out.alloc _) _ 1 1 [.slice (some ⟨bb, off + (m + 1) * 3, none⟩) z (c - (m + 1))] rfl rfl (new_in _ _ #[.slice (some ⟨bb, off + (m + 1) * 3, none⟩) z (c - (m + 1))]) (by intro x hx; simp at hx; subst hx; rfl) (by unfold maxLen; omega) (by omega) (by simp; omega) ?_; intro v9 w9 hown9 hgrow9 _)
      have HB9 := hide (below_app (hB.out.alloc hbz _) (hO.out.alloc _) hgrow9)
      have HI9 : Hid (InC w9 (some ⟨bb, off, none⟩) (((k, num, (kn : Int)) :: r).flatMap ndCells)) := hide ((unhide HA).below (unhide HB9))
      obtain ⟨p, hp⟩ : ∃ p : TS, p = (some ⟨bb, off + (m + 1) * 3, none⟩, c - (m + 1), (r.drop m).take z) := ⟨_, rfl⟩
      have HP1 : Hid (Full 1 p.2.2) := Lib.hid (by rw [hp]; exact HT.out)
      have HP2 : Hid (InC w p.1 (p.2.2.flatMap ndCells)) := Lib.hid (by rw [hp]; exact unhide HC)
      have HP3 : Hid (p.2.2.length ≤ p.2.1) := Lib.hid (by rw [hp]; show ((r.drop m).take z).length ≤ c - (m + 1); rw [htl.out]; omega)
      have HY9 : Hid (Kids w 0 (ls ++ [p])) := Lib.hid (hY.out.snoc HP1.out HP2.out HP3.out)
      have e1 : [p].map tsV = [.slice (some ⟨bb, off + (m + 1) * 3, none⟩) z (c - (m + 1))] := by
        rw [hp]
        show [Value.slice _ ((r.drop m).take z).length _] = _
        rw [htl.out]
      have HO9 : Hid (w9.ownsRow w.heap.size 22 1 v9 (ls ++ [p]).length ((ls ++ [p]).map tsV)) := hide (by
        rw [List.map_append, List.length_append, e1]
        exact hown9)
      have HQ9 : Hid (lsFlat (ls ++ [p]) = r.take (m + z)) := Lib.hid (by rw [lsFlat_snoc, hp]; exact HQ2.out)
      have HL9 : Hid ((ls ++ [p]).length = j + 1) := Lib.hid (by rw [List.length_append, HLJ.out]; rfl)
      clear e1 hp
      clear hown9 hgrow9
      go_wp2_with fail
      go_roundw
      case rel => exact ⟨j + 1, m + z, _, by go_num, by omega, by go_num, by omega, HL9.out, unhide HO9, unhide HY9, HQ9.out, HF2.out, unhide HI9, unhide HB9⟩
      case measure => simp [intOf]; omega
    · have hkj : kn - j = 0 := by omega
      have hz : r.drop m = [] := full_zero (by have := hFu.out; rwa [hkj] at this)
      have HQ9 : Hid (lsFlat ls = r) := Lib.hid (by
        rw [hQ.out]
        refine List.take_of_length_le ?_
        have := congrArg List.length hz
        simp at this; omega)
      have HL9 : Hid (ls.length = kn) := Lib.hid (by rw [HLJ.out]; omega)
      clear hz hFu hQ
      go_wp2_with fail
      go_ret
      exact ⟨A6, c6, ls, rfl, hO.out, hB.out, hY.out.below hB.out, HQ9.out, HL9.out⟩

end Go.Proofs.YtcnanbmbdajcaaaDoor
