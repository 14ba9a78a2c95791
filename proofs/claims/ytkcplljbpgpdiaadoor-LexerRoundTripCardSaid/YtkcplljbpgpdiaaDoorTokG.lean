/- LexerRoundTrip's walk: formatted tokens are read back. Conditions: the listed library variables hold what the program's text lays in them. -/
import Derived.Test.YtkcplljbpgpdiaaDoorTokF
import Derived.Test.YtkcplljbpgpdiaaDoorLayX3
import Derived.Test.YtkcplljbpgpdiaaDoorLexA
namespace Go.Proofs.YtkcplljbpgpdiaaDoor
open Go.RowKit M

set_option maxRecDepth 100000 in
set_option maxHeartbeats 6400000 in
theorem lexerRoundTrip_any (w : World) (A : Option Addr) (n c : Nat) (ts : List Tok) (hn : n = ts.length) (hA : InToks w A ts) (hw : ∀ t ∈ ts, WideTok t) (hr : RangeVar w) (hp : PowTab w) :
    Calls Tryd.prog 4 #[.slice A n c] w fun e w' => e = .returned (.bool true) ∧ Below w.heap.size w w' := by
  have HA := Lib.hid hA
  have HW := Lib.hid hw
  have HR := Lib.hid hr
  have HP := Lib.hid hp
  have HN := Lib.hid hn
  clear hA hw hr hn hp
  go_enter Tryd.func4, Tryd.ntmps4
  go_wp2_with fail
  refine (someTokens_any _ A n c ts HN.out HA.out HW.out).mono ?_
  rintro e w1 ⟨v1, us, rfl, ho1, hl1, hwu, hb1⟩
  obtain ⟨A3, c3, rfl⟩ := owns_form ho1
  have HV1 := Lib.hid (valids_any w1 A3 us.length c3 us rfl (InToks.own ho1 rfl) (by omega) (fun t ht => by have := (hwu t ht).str; omega))
  have HB1 := Lib.hid hb1
  have HVS : Hid (∀ t ∈ valL us, valT t.1 = true ∧ WideTok t) := fun t ht => by
    have := List.mem_filter.1 ht
    exact ⟨by simpa using this.2, hwu t this.1⟩
  have hlv : (valL us).length ≤ 40 := Nat.le_trans (valL_len us) hl1
  clear ho1 hb1 hwu hl1
  go_wp2_with fail
  refine HV1.out.mono ?_
  rintro e w2 ⟨v2, rfl, ho2, hb2⟩
  generalize valL us = vs at *
  obtain ⟨A4, c4, rfl⟩ := owns_form ho2
  have HI2 := Lib.hid (InToks.own ho2 rfl)
  have HB2 : Hid (Below w.heap.size w w2) := HB1.out.trans (hb2.mono HB1.out.size)
  clear ho2 hb2 HV1 HB1
  have HFM := Lib.hid (format_any w2 A4 vs.length c4 vs rfl HI2.out (by omega) (fun t ht => (HVS.out t ht).2) (HR.out.below HB2.out) (HP.out.below HB2.out))
  have hgood : fmtL (trs vs) = fmtB (trs vs) := fmtL_good fun t ht => (HVS.out t ht).1
  have hall : ∀ t ∈ trs vs, valT t = true ∧ t.num ≤ 9223372036854775807 := fun x hx => by
    obtain ⟨t, ht, rfl⟩ := List.mem_map.1 hx
    exact ⟨(HVS.out t ht).1, (HVS.out t ht).2.num1⟩
  have hlt : (trs vs).length = vs.length := by simp [trs]
  have hsz := fmt_len (trs vs) hall
  obtain ⟨os, hos, hol, hosame⟩ := fmt_scan (trs vs) hall (by omega)
  have HSAME : Hid (SameT os vs) := by
    refine ⟨by omega, fun k t u h1 h2 => ?_⟩
    have hx : (trs vs)[k]? = some u.1 := by unfold trs; rw [List.getElem?_map, h2]; rfl
    exact hosame k t u.1 h1 hx
  have hol40 : os.length ≤ 40 := by omega
  go_wp2_with fail
  refine HFM.out.mono ?_
  rintro e w3 ⟨rfl, hb3⟩
  rw [hgood]
  have HB3 : Hid (Below w.heap.size w w3) := HB2.out.trans (hb3.mono HB2.out.size)
  have HI3 : Hid (InToks w3 A4 vs) := HI2.out.below hb3
  have HR3 : Hid (RangeVar w3) := HR.out.below HB3.out
  have HSC := Lib.hid (scan_any (S (fmtB (trs vs))) (by unfold maxLen; show (fmtB (trs vs)).length ≤ _; omega) w3 HR3.out)
  rw [S_toList, hos] at HSC
  generalize S (fmtB (trs vs)) = q at *
  clear hos hol hosame hgood hall hlt hsz hb3 HFM
  go_wp2_with fail
  refine HSC.out.mono ?_
  rintro e w4 ⟨v4, rfl, ho4, hb4⟩
  obtain ⟨A5, c5, rfl⟩ := owns_form ho4
  simp only at ho4 ⊢
  have HI4 := Lib.hid (InToks.own ho4 rfl)
  have HB4 : Hid (Below w.heap.size w w4) := HB3.out.trans (hb4.mono HB3.out.size)
  have HI24 : Hid (InToks w4 A4 vs) := HI3.out.below hb4
  have HR4 : Hid (RangeVar w4) := HR3.out.below hb4
  clear ho4 hb4
  go_wp2_with fail
  refine (awake_any _ (HR4.out.alloc _)).mono ?_
  rintro e w5 ⟨rfl, hb5⟩
  have HB5 : Hid (Below w.heap.size w w5) := (HB4.out.alloc HB4.out.size _).trans (hb5.mono (by have := HB4.out.size; simp; omega))
  have HI5 : Hid (InToks w5 A5 os) := (HI4.out.alloc _).below hb5
  have HI25 : Hid (InToks w5 A4 vs) := (HI24.out.alloc _).below hb5
  clear hb5
  go_wp2_with fail
  refine (same_any os vs HSAME.out (by omega) A5 A4 os.length vs.length c5 c4 _ rfl rfl HI5.out HI25.out).mono ?_
  rintro e w6 ⟨rfl, hb6⟩
  have HB6 : Hid (Below w.heap.size w w6) := HB5.out.trans (hb6.mono HB5.out.size)
  clear hb6
  go_wp2
  go_ret
  exact ⟨rfl, HB6.out⟩

end Go.Proofs.YtkcplljbpgpdiaaDoor
