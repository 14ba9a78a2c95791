/- value.Text's writer: value at every value. Conditions: the text is short, as are the names. -/
-- by tools/gen_vxc.py
import Derived.Test.YtaambeficfiacaaGreatDoorVxN
import Derived.StillTailTactics
namespace Go.Proofs.YtaambeficfiacaaGreatDoor
open Go.RowKit VM

/-- what value leaves: the rest of the bytes, the text -/
def WvPost (w0 : World) (An : Option Addr) (nn cn : Nat) (r txt : List UInt8) (e : Ending) (w' : World) : Prop :=
  e = .returned (.tuple #[]) ∧ ∃ rest' tv, bs rest' = r ∧ WSt w0 w' rest' An nn cn tv txt
/-- what stands: the names, the table -/
structure WEnv (w0 : World) (An : Option Addr) (nn : Nat) (ns : List ByteArray) : Prop where
  tab : TabOK w0
  len : nn = ns.length
  le : nn ≤ 1048576
  sz : ∀ s ∈ ns, s.size ≤ 1048576
  row : InC w0 An (ns.map Value.string)
theorem wsimple_any (k : UInt8) (z : Int) (v : V) (hkz : (k = 1 ∧ ∃ l, v = .int l ∧ l.length = 8 ∧ z = numL l) ∨ (k = 2 ∧ ∃ b, v = .bool b ∧ z = (b.toNat : Int)) ∨ (k = 10 ∧ ∃ a b, v = .name a b ∧ z = ((a.toNat * 256 + b.toNat : Nat) : Int)))
    (w0 W : World) (rest : ByteArray) (An : Option Addr) (nn cn : Nat) (ns : List ByteArray) (hE : WEnv w0 An nn ns) (tv : Value) (txt : List UInt8) (h : WSt w0 W rest An nn cn tv txt) (hn : txt.length ≤ 70368744177000) :
    Calls Tryz.prog 47 #[.pointer (some ⟨w0.heap.size, 0, none⟩), .int .i64 (k.toNat : Int), .int .i64 z] W (WPost w0 rest An nn cn (txt ++ textV ns v)) := by
  rcases hkz with ⟨rfl, l, rfl, hl, rfl⟩ | ⟨rfl, b, rfl, rfl⟩ | ⟨rfl, a, b, rfl, rfl⟩
  · have hb : -9223372036854775808 ≤ numL l ∧ numL l ≤ 9223372036854775807 := by
      unfold numL signed
      have := natL_lt l
      rw [hl] at this
      split <;> omega
    exact wint_any (numL l) hb w0 W rest An nn cn tv txt h (by omega) hE.tab
  · have := wbool_any (b.toNat : Int) w0 W rest An nn cn tv txt h (by omega)
    have e : decide ((b.toNat : Int) = 1) = decide (b = 1) := by
      by_cases hb : b = 1
      · subst hb; rfl
      · rw [decide_eq_false hb, decide_eq_false]
        intro q
        exact hb (UInt8.toNat_inj.1 (by have : (1 : UInt8).toNat = 1 := rfl; omega))
    rw [e] at this
    exact this
  · show Calls _ _ _ _ (WPost w0 rest An nn cn (txt ++ nameT ns (a.toNat * 256 + b.toNat)))
    have ha := a.toNat_lt
    have hb := b.toNat_lt
    unfold nameT
    cases hq : ns[a.toNat * 256 + b.toNat]? with
    | some s => exact wname_yes _ s ns hq (hE.sz s (List.mem_of_getElem? hq)) w0 W rest An nn cn tv txt h hn hE.len hE.row
    | none => exact wname_no _ (by omega) w0 W rest An nn cn tv txt h hn hE.tab (by rw [hE.len]; exact List.getElem?_eq_none_iff.1 hq)
set_option linter.unusedSimpArgs false in
set_option maxRecDepth 100000 in
set_option maxHeartbeats 3200000 in
theorem wv_simple (k : UInt8) (z : Int) (v : V) (r : List UInt8) (hk : simpleB k = true) (hkz : (k = 1 ∧ ∃ l, v = .int l ∧ l.length = 8 ∧ z = numL l) ∨ (k = 2 ∧ ∃ b, v = .bool b ∧ z = (b.toNat : Int)) ∨ (k = 10 ∧ ∃ a b, v = .name a b ∧ z = ((a.toNat * 256 + b.toNat : Nat) : Int)))
    (w0 W : World) (rest : ByteArray) (hr : bs rest = enc v ++ r) (h0 : (bs rest)[0]? = some k) (hsl : (enc v).length = slenB k) (hnum : signed (numV k rest) = z) (hrs : rest.size ≤ 1048576)
    (An : Option Addr) (nn cn : Nat) (ns : List ByteArray) (hE : WEnv w0 An nn ns) (tv : Value) (txt : List UInt8) (h : WSt w0 W rest An nn cn tv txt) (hn : txt.length ≤ 70368744177000) :
    Calls Tryz.prog 27 #[.pointer (some ⟨w0.heap.size, 0, none⟩)] W (WvPost w0 An nn cn r (txt ++ textV ns v)) := by
  have hlen := congrArg List.length hr
  rw [bs_size, List.length_append, hsl] at hlen
  have hz : slenB k ≤ rest.size := by omega
  have h2 : 2 ≤ slenB k := by unfold slenB; split <;> (try split) <;> omega
  have h1 : 0 < rest.size := by omega
  have e1 : rest[0]'h1 = k := by have := bs_get rest 0 h1; rw [h0] at this; exact (Option.some.inj this).symm
  have wk : wrap64 (k.toNat : Int) = (k.toNat : Int) := IntWalk.wrap64_in _ (by have := k.toNat_lt; omega)
  have HS := Lib.hid (fun w => simple_any k w)
  have HNM := Lib.hid (fun w => number_any rest k h0 hz hrs w)
  rw [hnum] at HNM
  have HSM := Lib.hid (fun W tv h => wsimple_any k z v hkz w0 W rest An nn cn ns hE tv txt h hn)
  have HSL := Lib.hid (fun w => simpleLength_any k w)
  have HRT : Hid (bs (rest.extract (slenB k) rest.size) = r) := Lib.hid (by rw [bs_extract, hr, ← hsl]; exact List.drop_left' rfl)
  have HWS := hide h
  have c0 : W.cell? ⟨w0.heap.size, 0, none⟩ = some (.string rest) := h.blk.cell 0
  obtain ⟨L, hL⟩ : ∃ L, L = slenB k := ⟨_, rfl⟩
  rw [← hL] at HSL HRT hz h2
  obtain ⟨g, hg⟩ : ∃ g, w0.heap.size = g := ⟨_, rfl⟩
  rw [hg] at c0 HSM ⊢
  rw [hk] at HS
  clear hlen hr h0 hsl hnum hkz h hL
  go_enter Tryz.func27, Tryz.ntmps27
  go_wp2_with fail
  refine (HS.out _).mono ?_
  rintro e w1 ⟨rfl, rfl⟩
  go_wp2_with fail
  refine (HNM.out _).mono ?_
  rintro e w1 ⟨rfl, rfl⟩
  go_wp2_with fail
  refine (HSM.out _ _ (unhide HWS)).mono ?_
  rintro e w4 ⟨rfl, tv4, hw4⟩
  have HW4 := hide hw4
  have c0' : w4.cell? ⟨g, 0, none⟩ = some (.string rest) := by have := hw4.blk.cell 0; rw [hg] at this; exact this
  have f0' : w4.frozen? ⟨g, 0, none⟩ = false := by have := hw4.blk.frozen 0; rwa [hg] at this
  have HW5 : Hid (WSt w0 w4.drew rest An nn cn tv4 (txt ++ textV ns v)) := hide ⟨below_drew hw4.below, hw4.blk, hw4.own⟩
  have c5 : w4.drew.cell? ⟨g, 0, none⟩ = some (.string rest) := c0'
  have f5 : w4.drew.frozen? ⟨g, 0, none⟩ = false := f0'
  clear hw4 HWS c0
  go_wp2_with fail
  go_still_tail 8, (by kernel_rfl)
  still_call ((HSL.out _).mono fun _ _ h => ⟨h.1, h.2.symm⟩)
  repeat still_step
  refine wpStill_nil ?_
  change wpList _ _ _ _ _ w4.drew
  generalize w4.drew = w5 at *
  have HP : Hid (WSt w0 (w5.setCell ⟨g, 0, none⟩ (.string (rest.extract L rest.size))) (rest.extract L rest.size) An nn cn tv4 (txt ++ textV ns v)) := hide (by
    have := (unhide HW5).cut (Below.refl _ _) (unhide HW5).own (rest.extract L rest.size)
    rwa [hg] at this)
  clear HW4 HW5 c0' f0'
  go_wp2_with fail
  refine bodyPost_ret (results_none rfl _ _ _) rfl ?_
  exact ⟨rfl, _, _, HRT.out, unhide HP⟩

end Go.Proofs.YtaambeficfiacaaGreatDoor
namespace Go.Proofs.YtaambeficfiacaaGreatDoor
open Go.RowKit VM

theorem toS_size (l : List UInt8) : (toS l).size = l.length := rfl
theorem textsV_app (ns : List ByteArray) (k : UInt8) : ∀ (a b : List V) (i : Nat), textsV ns k i (a ++ b) = textsV ns k i a ++ textsV ns k (i + a.length) b
  | [], b, i => by unfold textsV; simp
  | x :: a, b, i => by
    show (if i = 0 then [] else sepT k i) ++ textV ns x ++ textsV ns k (i + 1) (a ++ b) = (if i = 0 then [] else sepT k i) ++ textV ns x ++ textsV ns k (i + 1) a ++ _
    rw [textsV_app ns k a b (i + 1), List.length_cons, ← List.append_assoc, show i + 1 + a.length = i + (a.length + 1) by omega]
theorem textsV_step (ns : List ByteArray) (k : UInt8) {l : List V} {j : Nat} {v : V} (h : l[j]? = some v) : textsV ns k 0 (l.take (j + 1)) = textsV ns k 0 (l.take j) ++ ((if j = 0 then [] else sepT k j) ++ textV ns v) := by
  have hj : j < l.length := (List.getElem?_eq_some_iff.1 h).1
  rw [List.take_add_one, h, Option.toList_some, textsV_app]
  rw [List.length_take, show 0 + min j l.length = j by omega]
  show _ ++ ((if j = 0 then [] else sepT k j) ++ textV ns v ++ textsV ns k (j + 1) []) = _
  unfold textsV
  rw [List.append_nil]
theorem textsV_le (ns : List ByteArray) (k : UInt8) (l : List V) (j : Nat) : (textsV ns k 0 (l.take j)).length ≤ (textsV ns k 0 l).length := by
  conv => rhs; rw [← List.take_append_drop j l, textsV_app, List.length_append]
  omega
/-- value's contract at depth d -/
def WvCon (w0 : World) (An : Option Addr) (nn cn : Nat) (ns : List ByteArray) (d : Nat) : Prop := ∀ (v : V) (r : List UInt8) (W : World) (rest : ByteArray) (tv : Value) (txt : List UInt8), wf d v = true → bs rest = enc v ++ r → rest.size ≤ 1048576 → WSt w0 W rest An nn cn tv txt → txt.length + (textV ns v).length ≤ 70368744170000 →
  Calls Tryz.prog 27 #[.pointer (some ⟨w0.heap.size, 0, none⟩)] W (WvPost w0 An nn cn r (txt ++ textV ns v))
set_option linter.unusedSimpArgs false in
set_option maxRecDepth 100000 in
set_option maxHeartbeats 6400000 in
theorem wv_comp (d : Nat) (w0 : World) (An : Option Addr) (nn cn : Nat) (ns : List ByteArray) (ih : WvCon w0 An nn cn ns d) (k : UInt8) (l : List V) (r : List UInt8) (hw : wf (d + 1) (.comp k l) = true) (W : World) (rest : ByteArray) (hr : bs rest = enc (.comp k l) ++ r) (hrs : rest.size ≤ 1048576) (tv : Value) (txt : List UInt8) (h : WSt w0 W rest An nn cn tv txt) (hn : txt.length + (textV ns (.comp k l)).length ≤ 70368744170000) :
    Calls Tryz.prog 27 #[.pointer (some ⟨w0.heap.size, 0, none⟩)] W (WvPost w0 An nn cn r (txt ++ textV ns (.comp k l))) := by
  unfold wf at hw
  simp only [Bool.and_eq_true, decide_eq_true_eq] at hw
  obtain ⟨hkc, hll, hwl, _⟩ := hw
  have hb0 : bs rest = k :: UInt8.ofNat (l.length / 256) :: UInt8.ofNat l.length :: (encs l ++ r) := hr
  have hsz := congrArg List.length hb0
  rw [bs_size] at hsz
  simp only [List.length_cons] at hsz
  have h3 : 3 ≤ rest.size := by omega
  have h1 : 0 < rest.size := by omega
  have e1 : rest[0]'h1 = k := by have := bs_get rest 0 h1; rw [hb0] at this; exact (Option.some.inj this).symm
  have wk : wrap64 (k.toNat : Int) = (k.toNat : Int) := IntWalk.wrap64_in _ (by have := k.toNat_lt; omega)
  have hu := u16_ofNat l.length hll
  have hks : simpleB k = false := by
    unfold isComp at hkc
    have hkc := of_decide_eq_true hkc
    unfold simpleB
    have n1 : k ≠ 1 := fun q => by subst q; exact absurd hkc.1 (by decide)
    have n2 : k ≠ 2 := fun q => by subst q; exact absurd hkc.1 (by decide)
    have n10 : k ≠ 10 := fun q => by subst q; exact absurd hkc.2 (by decide)
    simp [n1, n2, n10]
  have HS := Lib.hid (fun w => simple_any k w)
  rw [hks] at HS
  have HCT := Lib.hid (fun w => count_any rest _ _ h3 (by rw [hb0]; rfl) (by rw [hb0]; rfl) w)
  obtain ⟨n, hnl⟩ : ∃ n, n = l.length := ⟨_, rfl⟩
  rw [hu, ← hnl] at HCT
  have HNL := Lib.hid hnl
  have HX0 : Hid (bs (rest.extract 3 rest.size) = encs (l.drop 0) ++ r) := Lib.hid (by rw [bs_extract, hb0]; rfl)
  have hz0 : (rest.extract 3 rest.size).size ≤ 1048576 := by rw [← bs_size, bs_extract, List.length_drop, bs_size]; omega
  have HBR := Lib.hid (fun w => brackets_any k w)
  have HWF : Hid (∀ v ∈ l, wf d v = true) := Lib.hid (fun v hv => List.all_eq_true.1 hwl v hv)
  have HTOT : Hid (txt.length + ((opnT k).length + (textsV ns k 0 l).length + (clsT k).length) ≤ 70368744170000) := Lib.hid (by
    have e : textV ns (.comp k l) = opnT k ++ textsV ns k 0 l ++ clsT k := rfl
    rw [e, List.length_append, List.length_append] at hn
    omega)
  have HTX : Hid (textV ns (.comp k l) = opnT k ++ textsV ns k 0 l ++ clsT k) := Lib.hid rfl
  have HIHC := Lib.hid ih
  have HW0 := hide h
  have c0 : W.cell? ⟨w0.heap.size, 0, none⟩ = some (.string rest) := h.blk.cell 0
  have hn6 : n < 65536 := by omega
  obtain ⟨i0, hi0, hiz0, hiz1, hiz2⟩ := info_parts byte_infos
  obtain ⟨g, hg⟩ : ∃ g, w0.heap.size = g := ⟨_, rfl⟩
  unfold WvCon at HIHC
  rw [hg] at c0 HIHC ⊢
  clear hkc hll hwl hb0 hr hsz hu hks h hnl hn ih
  go_enter Tryz.func27, Tryz.ntmps27
  go_wp2_with fail
  refine (HS.out _).mono ?_
  rintro e w1 ⟨rfl, rfl⟩
  go_wp2_with fail
  refine (HCT.out _).mono ?_
  rintro e w2 ⟨rfl, mq, rfl⟩
  have HW2 : Hid (WSt w0 (W.drewN mq) rest An nn cn tv txt) := hide ⟨below_drewN (unhide HW0).below mq, (unhide HW0).blk, (unhide HW0).own⟩
  have c0' : (W.drewN mq).cell? ⟨g, 0, none⟩ = some (.string rest) := c0
  have f0' : (W.drewN mq).frozen? ⟨g, 0, none⟩ = false := by have := (unhide HW0).blk.frozen 0; rwa [hg] at this
  generalize W.drewN mq = w2 at *
  have HW3 : Hid (WSt w0 (w2.setCell ⟨g, 0, none⟩ (.string (rest.extract 3 rest.size))) (rest.extract 3 rest.size) An nn cn tv txt) := hide (by
    have := (unhide HW2).cut (Below.refl _ _) (unhide HW2).own (rest.extract 3 rest.size)
    rwa [hg] at this)
  clear HW0 HW2 c0
  go_wp2_with fail
  generalize w2.setCell ⟨g, 0, none⟩ (.string (rest.extract 3 rest.size)) = w3 at *
  generalize rest.extract 3 rest.size = r3 at *
  clear c0' f0'
  refine (HBR.out _).mono ?_
  rintro e w4 ⟨rfl, rfl⟩
  obtain ⟨A3, c3, rfl⟩ := owns_form (unhide HW3).own
  have c2 : w3.cell? ⟨g, 2, none⟩ = some (.slice A3 txt.length c3) := by have := (unhide HW3).blk.cell 2; rw [hg] at this; exact this
  have HO3 : Hid (w3.ownsRow (g + 1) 5 1 (.slice A3 txt.length c3) txt.length (bCells txt)) := hide (by have := (unhide HW3).own; rwa [hg] at this)
  have hlt3 : g + 1 ≤ w3.heap.size := by have := (unhide HW3).lt; rwa [hg] at this
  go_wp2_with (
    at_builtin
    refine Go.Lib.wpList_append_own_string _ rfl _ _ 48 9 rfl (g + 1) 5 i0 Tryz.underlying48 Tryz.underlying9 hi0 hiz0 hiz1 hiz2 _ txt.length _ rfl (unhide HO3) (toS (opnT k)) rfl (by rw [toS_size]; unfold maxLen; have := HTOT.out; omega) (by rw [toS_size]; have := HTOT.out; omega) hlt3 ?_
    intro v5 w5 hown5 hgrow5 _
    obtain ⟨A5, c5, rfl⟩ := owns_form hown5
    have HB6 : Hid (Below (w0.heap.size + 1) w3 w5) := hide (by rw [hg]; exact below_of_grown (unhide HO3) hgrow5 hlt3)
    have hb := (unhide HW3).blk.below (w' := w5) (B := w0.heap.size + 1) (unhide HB6) (by omega)
    rw [hg] at hb
    have k2 : w5.cell? ⟨g, 2, none⟩ = some (.slice A3 txt.length c3) := hb.cell 2
    have f2 := hb.frozen 2
    have HP5 : Hid (WSt w0 (w5.setCell ⟨g, 2, none⟩ (.slice A5 (txt.length + (toS (opnT k)).size) c5)) r3 An nn cn (.slice A5 (txt.length + (toS (opnT k)).size) c5) (txt ++ opnT k)) := hide (by
      have := (unhide HW3).put (W' := w5) (v' := .slice A5 (txt.length + (toS (opnT k)).size) c5) (txt' := txt ++ opnT k) (unhide HB6) (by rw [hg, bCells_app, List.length_append]; exact hown5)
      rwa [hg] at this)
    clear hown5 hgrow5 HO3 hlt3 hb HB6 HW3)
  generalize w5.setCell ⟨g, 2, none⟩ (.slice A5 (txt.length + (toS (opnT k)).size) c5) = w6 at *
  generalize (Value.slice A5 (txt.length + (toS (opnT k)).size) c5) = tv6 at *
  clear c2 k2 f2 HS HCT HBR
  go_loopw [61] (fun iv wr => ∃ (j : Nat) (rj : ByteArray) (tvj : Value) (tj : List UInt8), iv = .int .i64 j ∧ j ≤ n ∧ rj.size ≤ 1048576 ∧ Hid (bs rj = encs (l.drop j) ++ r) ∧ Hid (tj = txt ++ opnT k ++ textsV ns k 0 (l.take j)) ∧ Hid (WSt w0 wr rj An nn cn tvj tj)) (fun iv _ => n - (intOf iv).toNat)
  case atStart => exact ⟨0, r3, tv6, _, rfl, by omega, hz0, HX0.out, Lib.hid (by rw [List.take_zero]; unfold textsV; rw [List.append_nil]), unhide HP5⟩
  case round =>
    obtain ⟨j, rj, tvj, tj, rfl, hj, hrz, hX, hT, hWj⟩ := hrel
    have HWR := hide hWj.out
    clear HP5 HX0 hz0
    obtain ⟨A3, c3, rfl⟩ := owns_form (unhide HWR).own
    have c2 : wr.cell? ⟨g, 2, none⟩ = some (.slice A3 tj.length c3) := by have := (unhide HWR).blk.cell 2; rw [hg] at this; exact this
    have hown : wr.ownsRow (g + 1) 5 1 (.slice A3 tj.length c3) tj.length (bCells tj) := by have := (unhide HWR).own; rwa [hg] at this
    have hltw : g + 1 ≤ wr.heap.size := by have := (unhide HWR).lt; rwa [hg] at this
    clear hWj
    by_cases hjn : j < n
    · have gj : decide ((j : Int) < (n : Int)) = true := decide_eq_true (by omega)
      obtain ⟨v, hvj⟩ : ∃ v, l[j]? = some v := ⟨l[j]'(by have := HNL.out; omega), List.getElem?_eq_getElem _⟩
      have hjl := (List.getElem?_eq_some_iff.1 hvj).1
      have HB : Hid (bs rj = enc v ++ (encs (l.drop (j + 1)) ++ r)) := Lib.hid (by
        rw [hX.out, List.drop_eq_getElem_cons hjl, ← List.append_assoc]
        rw [List.getElem?_eq_getElem hjl] at hvj
        rw [Option.some.inj hvj]; rfl)
      have HSTP := Lib.hid (textsV_step ns k hvj)
      have HLEN : Hid (tj.length + (if j = 0 then [] else sepT k j).length + (textV ns v).length ≤ 70368744170000) := Lib.hid (by
        have q1 := congrArg List.length HSTP.out
        have q2 := textsV_le ns k l (j + 1)
        have q3 := congrArg List.length hT.out
        have q4 := HTOT.out
        rw [List.length_append, List.length_append] at q1 q3
        omega)
      have HTE : Hid (tj ++ (if j = 0 then [] else sepT k j) ++ textV ns v = txt ++ opnT k ++ textsV ns k 0 (l.take (j + 1))) := Lib.hid (by rw [HSTP.out, hT.out]; simp only [List.append_assoc])
      have HWV := HWF.out v (List.mem_of_getElem? hvj)
      have HIH := Lib.hid (fun W tv txt (h : WSt w0 W rj An nn cn tv txt) (hl : txt.length + (textV ns v).length ≤ 70368744170000) => HIHC.out v _ W rj tv txt HWV HB.out hrz h hl)
      clear hvj hjl HWV
      by_cases hj0 : j = 0
      · subst hj0
        rw [if_pos rfl, List.append_nil] at HTE
        rw [if_pos rfl] at HLEN
        have HLV : Hid (tj.length + (textV ns v).length ≤ 70368744170000) := Lib.hid (by have := HLEN.out; simp at this; omega)
        have HP5 := HWR
        clear c2 hown hltw
        go_wp2_with fail
        refine (HIH.out _ _ _ (unhide HP5) HLV.out).mono ?_
        rintro e w7 ⟨rfl, r7, tv7, hr7, hw7⟩
        have HW7 := hide hw7
        have HR7 := Lib.hid hr7
        clear hr7 hw7 HP5
        go_wp2_with fail
        go_roundw
        case rel => exact ⟨0 + 1, r7, tv7, _, by go_num, by omega, by (have q1 := congrArg List.length HR7.out; have q2 := congrArg List.length HB.out; rw [bs_size] at q1 q2; rw [List.length_append] at q2; omega), HR7.out, HTE.out, unhide HW7⟩
        case measure => simp [intOf]; omega
      · rw [if_neg hj0] at HTE HLEN
        have HLS : Hid (tj.length + (toS (sepT k j)).size ≤ 70368744170000) := Lib.hid (by rw [toS_size]; have := HLEN.out; omega)
        have HLV : Hid ((tj ++ sepT k j).length + (textV ns v).length ≤ 70368744170000) := Lib.hid (by rw [List.length_append]; exact HLEN.out)
        have HSEP := Lib.hid (fun w => separator_any k j (by omega) w)
        have pj : (0 : Int) < (j : Int) := by omega
        go_wp2_with fail
        have c2d : wr.drew.cell? ⟨g, 2, none⟩ = some (.slice A3 tj.length c3) := c2
        have HO4 : Hid (wr.drew.ownsRow (g + 1) 5 1 (.slice A3 tj.length c3) tj.length (bCells tj)) := hide hown
        have hz4 : g + 1 ≤ wr.drew.heap.size := hltw
        have HSD : Hid (WSt w0 wr.drew rj An nn cn (.slice A3 tj.length c3) tj) := hide ⟨below_drew (unhide HWR).below, (unhide HWR).blk, (unhide HWR).own⟩
        clear c2 hown hltw HWR
        refine wp_region_noPanic ?_
        refine wp_region_held_drew (S := fun W => True) (by kernel_rfl) trivial (fun _ => ?_)
        generalize wr.drew = wd at *
        try simp only [Act.put, List.setIfInBounds_toArray, List.set_cons_zero, List.set_cons_succ]
        refine wpAnyH_take (i := 0) (oi := { dst := some 66, op := Op.move (Operand.tmp 0), type := 62, pos := "text.go:39", after := #[], guard := none }) (v := ?_) rfl (by kernel_rfl) (by kernel_rfl) (by kernel_rfl) (fun _ _ _ h => h) (Or.inl ⟨by rfl, ?_⟩) trivial ?_
        rotate_left 1
        · intro w hSw
          go_simp
          first
            | done
            | with_reducible rfl
            | rw [if_neg (by omega)]
        try simp only [Act.put, List.setIfInBounds_toArray, List.set_cons_zero, List.set_cons_succ]
        refine wpAnyH_take (i := 1) (oi := { dst := some 67, op := Op.move (Operand.tmp 0), type := 62, pos := "text.go:39", after := #[], guard := none }) (v := ?_) rfl (by kernel_rfl) (by kernel_rfl) (by kernel_rfl) (fun _ _ _ h => h) (Or.inl ⟨by rfl, ?_⟩) trivial ?_
        rotate_left 1
        · intro w hSw
          go_simp
          first
            | done
            | with_reducible rfl
            | rw [if_neg (by omega)]
        try simp only [Act.put, List.setIfInBounds_toArray, List.set_cons_zero, List.set_cons_succ]
        refine wpAnyH_take (i := 2) (oi := { dst := some 68, op := Op.nilCheck (Operand.tmp 67), type := 0, pos := "text.go:39", after := #[{ on := 1, ground := Ground.data }], guard := none }) (v := ?_) rfl (by kernel_rfl) (by kernel_rfl) (by kernel_rfl) (fun _ _ _ h => h) (Or.inl ⟨by rfl, ?_⟩) trivial ?_
        rotate_left 1
        · intro w hSw
          go_simp
          first
            | done
            | with_reducible rfl
            | rw [if_neg (by omega)]
        try simp only [Act.put, List.setIfInBounds_toArray, List.set_cons_zero, List.set_cons_succ]
        refine wpAnyH_take (i := 3) (oi := { dst := some 69, op := Op.fieldAddr 50 (Operand.tmp 68) 2, type := 0, pos := "text.go:39", after := #[{ on := 2, ground := Ground.data }], guard := none }) (v := ?_) rfl (by kernel_rfl) (by kernel_rfl) (by kernel_rfl) (fun _ _ _ h => h) (Or.inl ⟨by rfl, ?_⟩) trivial ?_
        rotate_left 1
        · intro w hSw
          go_simp
          first
            | done
            | with_reducible rfl
            | rw [if_neg (by omega)]
        try simp only [Act.put, List.setIfInBounds_toArray, List.set_cons_zero, List.set_cons_succ]
        refine wpAnyH_take (i := 5) (oi := { dst := some 71, op := Op.move (Operand.tmp 2), type := 3, pos := "text.go:39", after := #[], guard := none }) (v := ?_) rfl (by kernel_rfl) (by kernel_rfl) (by kernel_rfl) (fun _ _ _ h => h) (Or.inl ⟨by rfl, ?_⟩) trivial ?_
        rotate_left 1
        · intro w hSw
          go_simp
          first
            | done
            | with_reducible rfl
            | rw [if_neg (by omega)]
        try simp only [Act.put, List.setIfInBounds_toArray, List.set_cons_zero, List.set_cons_succ]
        refine wpAnyH_take (i := 6) (oi := { dst := some 72, op := Op.move (Operand.tmp 6), type := 3, pos := "text.go:39", after := #[], guard := none }) (v := ?_) rfl (by kernel_rfl) (by kernel_rfl) (by kernel_rfl) (fun _ _ _ h => h) (Or.inl ⟨by rfl, ?_⟩) trivial ?_
        rotate_left 1
        · intro w hSw
          go_simp
          first
            | done
            | with_reducible rfl
            | rw [if_neg (by omega)]
        try simp only [Act.put, List.setIfInBounds_toArray, List.set_cons_zero, List.set_cons_succ]
        refine wpAnyH_ready (rs := [4, 7]) (by kernel_rfl) (by simp) ?_
        refine AllReadyH.cons (o := { dst := some 70, op := Op.load 48 (Operand.tmp 69), type := 48, pos := "text.go:39", after := #[{ on := 3, ground := Ground.data }], guard := none }) rfl (fun K hK => ?_) (AllReadyH.cons (o := { dst := some 73, op := Op.call { callee := Callee.value (Operand.func 51), args := #[Operand.tmp 71, Operand.tmp 72], argTypes := #[3, 3] }, type := 9, pos := "text.go:39", after := #[{ on := 5, ground := Ground.data }, { on := 6, ground := Ground.data }], guard := none }) rfl (fun K hK => ?_) AllReadyH.nil)
        · go_simp
          try dsimp only
          refine hK.out _ _ trivial (fun _ => ?_)
          clear hK K
          try simp only [Act.put, List.setIfInBounds_toArray, List.set_cons_zero, List.set_cons_succ]
          refine wpAnyH_ready (rs := [7]) (by kernel_rfl) (by simp) ?_
          refine AllReadyH.cons (o := { dst := some 73, op := Op.call { callee := Callee.value (Operand.func 51), args := #[Operand.tmp 71, Operand.tmp 72], argTypes := #[3, 3] }, type := 9, pos := "text.go:39", after := #[{ on := 5, ground := Ground.data }, { on := 6, ground := Ground.data }], guard := none }) rfl (fun K hK => ?_) AllReadyH.nil
          go_simp
          go_at_call 51
          refine (HSEP.out _).mono ?_
          rintro e wq ⟨rfl, rfl⟩
          try dsimp only
          refine hK.out _ _ trivial (fun _ => ?_)
          clear hK K
          try simp only [Act.put, List.setIfInBounds_toArray, List.set_cons_zero, List.set_cons_succ]
          refine wpAnyH_ready (rs := [8]) (by kernel_rfl) (by simp) ?_
          refine AllReadyH.cons (o := { dst := some 74, op := Op.call { callee := Callee.builtin Builtin.append, args := #[Operand.tmp 70, Operand.tmp 73], argTypes := #[48, 9] }, type := 48, pos := "text.go:39", after := #[{ on := 4, ground := Ground.data }, { on := 7, ground := Ground.data }, { on := 7, ground := Ground.chain }], guard := none }) rfl (fun K hK => ?_) AllReadyH.nil
          refine step_appS rfl _ _ 48 9 rfl (g + 1) 5 i0 Tryz.underlying48 Tryz.underlying9 hi0 hiz0 hiz1 hiz2 (.slice A3 tj.length c3) tj.length (bCells tj) rfl (unhide HO4) (toS (sepT k j)) rfl (by unfold maxLen; have := HLS.out; omega) (by have := HLS.out; omega) hz4 ?_
          intro v5 w5 hown5 hgrow5
          obtain ⟨A5, c5, rfl⟩ := owns_form hown5
          have HB6 : Hid (Below (w0.heap.size + 1) wd w5) := hide (by rw [hg]; exact below_of_grown (unhide HO4) hgrow5 hz4)
          have hb := (unhide HSD).blk.below (w' := w5) (B := w0.heap.size + 1) (unhide HB6) (by omega)
          rw [hg] at hb
          have k2 : w5.cell? ⟨g, 2, none⟩ = some (.slice A3 tj.length c3) := hb.cell 2
          have f2 := hb.frozen 2
          have HP5 : Hid (WSt w0 (w5.setCell ⟨g, 2, none⟩ (.slice A5 (tj.length + (toS (sepT k j)).size) c5)) rj An nn cn (.slice A5 (tj.length + (toS (sepT k j)).size) c5) (tj ++ sepT k j)) := hide (by
            have := (unhide HSD).put (W' := w5) (v' := .slice A5 (tj.length + (toS (sepT k j)).size) c5) (txt' := tj ++ sepT k j) (unhide HB6) (by rw [hg, bCells_app, List.length_append]; exact hown5)
            rwa [hg] at this)
          clear hown5 hgrow5 HO4 hz4 hb HB6 HSD c2d
          refine hK.out _ _ trivial (fun _ => ?_)
          clear hK K
          try simp only [Act.put, List.setIfInBounds_toArray, List.set_cons_zero, List.set_cons_succ]
          refine wpAnyH_take (i := 9) (oi := { dst := some 75, op := Op.nilCheck (Operand.tmp 66), type := 0, pos := "text.go:39", after := #[{ on := 0, ground := Ground.data }, { on := 0, ground := Ground.phase }, { on := 1, ground := Ground.phase }, { on := 2, ground := Ground.phase }, { on := 3, ground := Ground.phase }, { on := 4, ground := Ground.phase }, { on := 5, ground := Ground.phase }, { on := 6, ground := Ground.phase }, { on := 7, ground := Ground.phase }, { on := 8, ground := Ground.phase }], guard := none }) (v := ?_) rfl (by kernel_rfl) (by kernel_rfl) (by kernel_rfl) (fun _ _ _ h => h) (Or.inl ⟨by rfl, ?_⟩) trivial ?_
          rotate_left 1
          · intro w hSw
            go_simp
            first
              | done
              | with_reducible rfl
              | rw [if_neg (by omega)]
          try simp only [Act.put, List.setIfInBounds_toArray, List.set_cons_zero, List.set_cons_succ]
          refine wpAnyH_take (i := 10) (oi := { dst := some 76, op := Op.fieldAddr 50 (Operand.tmp 75) 2, type := 0, pos := "text.go:39", after := #[{ on := 9, ground := Ground.data }, { on := 0, ground := Ground.phase }, { on := 1, ground := Ground.phase }, { on := 2, ground := Ground.phase }, { on := 3, ground := Ground.phase }, { on := 4, ground := Ground.phase }, { on := 5, ground := Ground.phase }, { on := 6, ground := Ground.phase }, { on := 7, ground := Ground.phase }, { on := 8, ground := Ground.phase }], guard := none }) (v := ?_) rfl (by kernel_rfl) (by kernel_rfl) (by kernel_rfl) (fun _ _ _ h => h) (Or.inl ⟨by rfl, ?_⟩) trivial ?_
          rotate_left 1
          · intro w hSw
            go_simp
            first
              | done
              | with_reducible rfl
              | rw [if_neg (by omega)]
          try simp only [Act.put, List.setIfInBounds_toArray, List.set_cons_zero, List.set_cons_succ]
          refine wpAnyH_ready (rs := [11]) (by kernel_rfl) (by simp) ?_
          refine AllReadyH.cons (o := { dst := none, op := Op.store 48 (Operand.tmp 76) (Operand.tmp 74), type := 0, pos := "text.go:39", after := #[{ on := 10, ground := Ground.data }, { on := 8, ground := Ground.data }, { on := 8, ground := Ground.chain }, { on := 0, ground := Ground.phase }, { on := 1, ground := Ground.phase }, { on := 2, ground := Ground.phase }, { on := 3, ground := Ground.phase }, { on := 4, ground := Ground.phase }, { on := 5, ground := Ground.phase }, { on := 6, ground := Ground.phase }, { on := 7, ground := Ground.phase }, { on := 8, ground := Ground.phase }], guard := none }) rfl (fun K hK => ?_) AllReadyH.nil
          go_simp
          refine hK.out _ _ trivial (fun _ => ?_)
          clear hK K
          try simp only [Act.put, List.setIfInBounds_toArray, List.set_cons_zero, List.set_cons_succ]
          refine wpAnyH_done (by kernel_rfl) ?_ _
          refine NoPanic.normal ?_
          clear k2 f2
          generalize w5.setCell ⟨g, 2, none⟩ (.slice A5 (tj.length + (toS (sepT k j)).size) c5) = w6 at *
          generalize (Value.slice A5 (tj.length + (toS (sepT k j)).size) c5) = tv6 at *
          go_wp2_with fail
          refine (HIH.out _ _ _ (unhide HP5) HLV.out).mono ?_
          rintro e w7 ⟨rfl, r7, tv7, hr7, hw7⟩
          have HW7 := hide hw7
          have HR7 := Lib.hid hr7
          clear hr7 hw7 HP5
          go_wp2_with fail
          go_roundw
          case rel => exact ⟨j + 1, r7, tv7, _, by go_num, by omega, by (have q1 := congrArg List.length HR7.out; have q2 := congrArg List.length HB.out; rw [bs_size] at q1 q2; rw [List.length_append] at q2; omega), HR7.out, HTE.out, unhide HW7⟩
          case measure => simp [intOf]; omega
        · go_simp
          go_at_call 51
          refine (HSEP.out _).mono ?_
          rintro e wq ⟨rfl, rfl⟩
          try dsimp only
          refine hK.out _ _ trivial (fun _ => ?_)
          clear hK K
          try simp only [Act.put, List.setIfInBounds_toArray, List.set_cons_zero, List.set_cons_succ]
          refine wpAnyH_ready (rs := [4]) (by kernel_rfl) (by simp) ?_
          refine AllReadyH.cons (o := { dst := some 70, op := Op.load 48 (Operand.tmp 69), type := 48, pos := "text.go:39", after := #[{ on := 3, ground := Ground.data }], guard := none }) rfl (fun K hK => ?_) AllReadyH.nil
          go_simp
          try dsimp only
          refine hK.out _ _ trivial (fun _ => ?_)
          clear hK K
          try simp only [Act.put, List.setIfInBounds_toArray, List.set_cons_zero, List.set_cons_succ]
          refine wpAnyH_ready (rs := [8]) (by kernel_rfl) (by simp) ?_
          refine AllReadyH.cons (o := { dst := some 74, op := Op.call { callee := Callee.builtin Builtin.append, args := #[Operand.tmp 70, Operand.tmp 73], argTypes := #[48, 9] }, type := 48, pos := "text.go:39", after := #[{ on := 4, ground := Ground.data }, { on := 7, ground := Ground.data }, { on := 7, ground := Ground.chain }], guard := none }) rfl (fun K hK => ?_) AllReadyH.nil
          refine step_appS rfl _ _ 48 9 rfl (g + 1) 5 i0 Tryz.underlying48 Tryz.underlying9 hi0 hiz0 hiz1 hiz2 (.slice A3 tj.length c3) tj.length (bCells tj) rfl (unhide HO4) (toS (sepT k j)) rfl (by unfold maxLen; have := HLS.out; omega) (by have := HLS.out; omega) hz4 ?_
          intro v5 w5 hown5 hgrow5
          obtain ⟨A5, c5, rfl⟩ := owns_form hown5
          have HB6 : Hid (Below (w0.heap.size + 1) wd w5) := hide (by rw [hg]; exact below_of_grown (unhide HO4) hgrow5 hz4)
          have hb := (unhide HSD).blk.below (w' := w5) (B := w0.heap.size + 1) (unhide HB6) (by omega)
          rw [hg] at hb
          have k2 : w5.cell? ⟨g, 2, none⟩ = some (.slice A3 tj.length c3) := hb.cell 2
          have f2 := hb.frozen 2
          have HP5 : Hid (WSt w0 (w5.setCell ⟨g, 2, none⟩ (.slice A5 (tj.length + (toS (sepT k j)).size) c5)) rj An nn cn (.slice A5 (tj.length + (toS (sepT k j)).size) c5) (tj ++ sepT k j)) := hide (by
            have := (unhide HSD).put (W' := w5) (v' := .slice A5 (tj.length + (toS (sepT k j)).size) c5) (txt' := tj ++ sepT k j) (unhide HB6) (by rw [hg, bCells_app, List.length_append]; exact hown5)
            rwa [hg] at this)
          clear hown5 hgrow5 HO4 hz4 hb HB6 HSD c2d
          refine hK.out _ _ trivial (fun _ => ?_)
          clear hK K
          try simp only [Act.put, List.setIfInBounds_toArray, List.set_cons_zero, List.set_cons_succ]
          refine wpAnyH_take (i := 9) (oi := { dst := some 75, op := Op.nilCheck (Operand.tmp 66), type := 0, pos := "text.go:39", after := #[{ on := 0, ground := Ground.data }, { on := 0, ground := Ground.phase }, { on := 1, ground := Ground.phase }, { on := 2, ground := Ground.phase }, { on := 3, ground := Ground.phase }, { on := 4, ground := Ground.phase }, { on := 5, ground := Ground.phase }, { on := 6, ground := Ground.phase }, { on := 7, ground := Ground.phase }, { on := 8, ground := Ground.phase }], guard := none }) (v := ?_) rfl (by kernel_rfl) (by kernel_rfl) (by kernel_rfl) (fun _ _ _ h => h) (Or.inl ⟨by rfl, ?_⟩) trivial ?_
          rotate_left 1
          · intro w hSw
            go_simp
            first
              | done
              | with_reducible rfl
              | rw [if_neg (by omega)]
          try simp only [Act.put, List.setIfInBounds_toArray, List.set_cons_zero, List.set_cons_succ]
          refine wpAnyH_take (i := 10) (oi := { dst := some 76, op := Op.fieldAddr 50 (Operand.tmp 75) 2, type := 0, pos := "text.go:39", after := #[{ on := 9, ground := Ground.data }, { on := 0, ground := Ground.phase }, { on := 1, ground := Ground.phase }, { on := 2, ground := Ground.phase }, { on := 3, ground := Ground.phase }, { on := 4, ground := Ground.phase }, { on := 5, ground := Ground.phase }, { on := 6, ground := Ground.phase }, { on := 7, ground := Ground.phase }, { on := 8, ground := Ground.phase }], guard := none }) (v := ?_) rfl (by kernel_rfl) (by kernel_rfl) (by kernel_rfl) (fun _ _ _ h => h) (Or.inl ⟨by rfl, ?_⟩) trivial ?_
          rotate_left 1
          · intro w hSw
            go_simp
            first
              | done
              | with_reducible rfl
              | rw [if_neg (by omega)]
          try simp only [Act.put, List.setIfInBounds_toArray, List.set_cons_zero, List.set_cons_succ]
          refine wpAnyH_ready (rs := [11]) (by kernel_rfl) (by simp) ?_
          refine AllReadyH.cons (o := { dst := none, op := Op.store 48 (Operand.tmp 76) (Operand.tmp 74), type := 0, pos := "text.go:39", after := #[{ on := 10, ground := Ground.data }, { on := 8, ground := Ground.data }, { on := 8, ground := Ground.chain }, { on := 0, ground := Ground.phase }, { on := 1, ground := Ground.phase }, { on := 2, ground := Ground.phase }, { on := 3, ground := Ground.phase }, { on := 4, ground := Ground.phase }, { on := 5, ground := Ground.phase }, { on := 6, ground := Ground.phase }, { on := 7, ground := Ground.phase }, { on := 8, ground := Ground.phase }], guard := none }) rfl (fun K hK => ?_) AllReadyH.nil
          go_simp
          refine hK.out _ _ trivial (fun _ => ?_)
          clear hK K
          try simp only [Act.put, List.setIfInBounds_toArray, List.set_cons_zero, List.set_cons_succ]
          refine wpAnyH_done (by kernel_rfl) ?_ _
          refine NoPanic.normal ?_
          clear k2 f2
          generalize w5.setCell ⟨g, 2, none⟩ (.slice A5 (tj.length + (toS (sepT k j)).size) c5) = w6 at *
          generalize (Value.slice A5 (tj.length + (toS (sepT k j)).size) c5) = tv6 at *
          go_wp2_with fail
          refine (HIH.out _ _ _ (unhide HP5) HLV.out).mono ?_
          rintro e w7 ⟨rfl, r7, tv7, hr7, hw7⟩
          have HW7 := hide hw7
          have HR7 := Lib.hid hr7
          clear hr7 hw7 HP5
          go_wp2_with fail
          go_roundw
          case rel => exact ⟨j + 1, r7, tv7, _, by go_num, by omega, by (have q1 := congrArg List.length HR7.out; have q2 := congrArg List.length HB.out; rw [bs_size] at q1 q2; rw [List.length_append] at q2; omega), HR7.out, HTE.out, unhide HW7⟩
          case measure => simp [intOf]; omega
    · obtain rfl : j = n := by omega
      have HO3 := hide hown
      have HTF : Hid (tj ++ clsT k = txt ++ textV ns (.comp k l)) := Lib.hid (by
        rw [hT.out, HTX.out, List.take_of_length_le (by have := HNL.out; omega)]
        simp only [List.append_assoc])
      have HLT : Hid (tj.length + (clsT k).length ≤ 70368744170000) := Lib.hid (by
        have q3 := congrArg List.length hT.out
        have q2 := textsV_le ns k l j
        have q4 := HTOT.out
        rw [List.length_append, List.length_append] at q3
        omega)
      have HRR : Hid (bs rj = r) := Lib.hid (by rw [hX.out, List.drop_of_length_le (by have := HNL.out; omega)]; rfl)
      go_wp2_with (
        at_builtin
        refine Go.Lib.wpList_append_own_string _ rfl _ _ 48 9 rfl (g + 1) 5 i0 Tryz.underlying48 Tryz.underlying9 hi0 hiz0 hiz1 hiz2 _ tj.length _ rfl (unhide HO3) (toS (clsT k)) rfl (by rw [toS_size]; unfold maxLen; have := HLT.out; omega) (by rw [toS_size]; have := HLT.out; omega) hltw ?_
        intro v5 w5 hown5 hgrow5 _
        obtain ⟨A5, c5, rfl⟩ := owns_form hown5
        have HB6 : Hid (Below (w0.heap.size + 1) wr w5) := hide (by rw [hg]; exact below_of_grown (unhide HO3) hgrow5 hltw)
        have hb := (unhide HWR).blk.below (w' := w5) (B := w0.heap.size + 1) (unhide HB6) (by omega)
        rw [hg] at hb
        have k2 : w5.cell? ⟨g, 2, none⟩ = some (.slice A3 tj.length c3) := hb.cell 2
        have f2 := hb.frozen 2
        have HP5 : Hid (WSt w0 (w5.setCell ⟨g, 2, none⟩ (.slice A5 (tj.length + (toS (clsT k)).size) c5)) rj An nn cn (.slice A5 (tj.length + (toS (clsT k)).size) c5) (tj ++ clsT k)) := hide (by
          have := (unhide HWR).put (W' := w5) (v' := .slice A5 (tj.length + (toS (clsT k)).size) c5) (txt' := tj ++ clsT k) (unhide HB6) (by rw [hg, bCells_app, List.length_append]; exact hown5)
          rwa [hg] at this)
        clear hown5 hgrow5 HO3 hltw hb HB6 HWR)
      go_end0
      exact ⟨rfl, rj, _, HRR.out, by rw [← HTF.out]; exact unhide HP5⟩

end Go.Proofs.YtaambeficfiacaaGreatDoor
