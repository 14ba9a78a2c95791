/- The reference's Text one level up, at all values but maps. Conditions: that contract one level down; the texts are short. -/
-- by tools/gen_vxu.py
import Derived.Test.YtaambeficfiacaaGreatDoorVxR
import Derived.Lib.ItoaLen
namespace Go.Proofs.YtaambeficfiacaaGreatDoor
open Go.RowKit VM

theorem val_of {d : Nat} (hd : d ≤ 32) {v : V} {s : ByteArray} (hw : wf d v = true) (hs : bs s = enc v) (hz : s.size ≤ 131072) : valB 32 s = true ∧ treeB s = v :=
  ⟨valB_iff.2 ⟨hz, v, hs, wf_le hd hw⟩, tree_of hd hs hw⟩
theorem kind_of {s : ByteArray} {v : V} (h : valB 32 s = true ∧ treeB s = v) (hz : s.size ≤ 131072) (w : World) : Calls Tryz.prog 29 #[.string s] w fun e w' => e = .returned (.int .i64 (v.kind.toNat : Int)) ∧ Below w.heap.size w w' := by
  have := rkind_any s (by omega) w
  unfold kindM at this
  rwa [if_pos h.1, h.2] at this
theorem num_of {s : ByteArray} {v : V} (h : valB 32 s = true ∧ treeB s = v) (hz : s.size ≤ 131072) (w : World) : Calls Tryz.prog 31 #[.string s] w fun e w' => e = .returned (.int .i64 (numT v)) ∧ Below w.heap.size w w' := by
  have := rNumber_any s (by omega) w
  unfold numM at this
  rwa [if_pos h.1, h.2] at this
theorem parts_of {s : ByteArray} {v : V} (h : valB 32 s = true ∧ treeB s = v) (hz : s.size ≤ 131072) (w : World) : Calls Tryz.prog 28 #[.string s] w fun e w' => ∃ A c ps, e = .returned (.slice A ps.length c) ∧ InC w' A (ps.map Value.string) ∧ PartsOf v ps ∧ Below w.heap.size w w' ∧ ps.length ≤ c := by
  have := rparts_any s (by omega) h.1 w
  rwa [h.2] at this
set_option linter.unusedVariables false in
set_option linter.unusedSimpArgs false in
set_option maxRecDepth 100000 in
set_option maxHeartbeats 6400000 in
theorem rtext_int (s : ByteArray) (ns : List ByteArray) (nn cn : Nat) (l : List UInt8) (hl : l.length = 8) (hv : valB 32 s = true ∧ treeB s = .int l) (hz : s.size ≤ 131072) (W : World) (An : Option Addr) (hN : InC W An (ns.map Value.string))  :
    Calls Tryz.prog 8 #[.string s, .slice An nn cn] W fun e w' => e = .returned (.string (toS (textV ns (.int l)))) ∧ Below W.heap.size W w' := by
  have hb : -9223372036854775808 ≤ numL l ∧ numL l ≤ 9223372036854775807 := by
    unfold numL signed
    have := natL_lt l
    rw [hl] at this
    split <;> omega
  have HPT := Lib.hid (fun w => parts_of hv hz w)
  have HK := Lib.hid (fun w => kind_of hv hz w)
  have HNU : Hid (∀ w, Calls Tryz.prog 31 #[.string s] w fun e w' => e = .returned (.int .i64 (numL l)) ∧ Below w.heap.size w w') := Lib.hid (fun w => num_of hv hz w)
  have HD := Lib.hid (fun w => rdec_any (numL l) hb w)
  have HE : Hid (toS (textV ns (.int l)) = decS (numL l)) := Lib.hid rfl
  change Hid (∀ w, Calls _ _ _ w fun e w' => e = .returned (.int .i64 1) ∧ _) at HK
  generalize numL l = z at *
  clear hv hz hN hb
  go_enter Tryz.func8, Tryz.ntmps8
  go_wp2_with fail
  refine (HPT.out _).mono ?_
  rintro e w1 ⟨A, c, ps, rfl, hI1, hP1, hb1, hcl⟩
  have HB1 := hide hb1
  have HI1 := hide hI1
  have HP1 := Lib.hid hP1
  clear hb1 hI1 hP1
  go_wp2_with fail
  refine (HK.out _).mono ?_
  rintro e w2 ⟨rfl, hb2⟩
  have HB2 := hide ((unhide HB1).trans (hb2.mono (unhide HB1).size))
  have HI2 := hide ((unhide HI1).below hb2)
  clear hb2 HB1 HI1
  go_wp2_with fail
  refine (HNU.out _).mono ?_
  rintro e w3 ⟨rfl, hb3⟩
  have HB3 := hide ((unhide HB2).trans (hb3.mono (unhide HB2).size))
  clear hb3 HB2
  go_wp2_with fail
  refine (HD.out _).mono ?_
  rintro e w4 ⟨rfl, rfl⟩
  go_wp2_with fail
  go_ret
  exact ⟨by rw [HE.out]; rfl, unhide HB3⟩
set_option linter.unusedVariables false in
set_option linter.unusedSimpArgs false in
set_option maxRecDepth 100000 in
set_option maxHeartbeats 6400000 in
theorem rtext_b0 (s : ByteArray) (ns : List ByteArray) (nn cn : Nat) (hv : valB 32 s = true ∧ treeB s = .bool 0) (hz : s.size ≤ 131072) (W : World) (An : Option Addr) (hN : InC W An (ns.map Value.string))  :
    Calls Tryz.prog 8 #[.string s, .slice An nn cn] W fun e w' => e = .returned (.string (toS (textV ns (.bool 0)))) ∧ Below W.heap.size W w' := by
  have HPT := Lib.hid (fun w => parts_of hv hz w)
  have HK := Lib.hid (fun w => kind_of hv hz w)
  have HNU : Hid (∀ w, Calls Tryz.prog 31 #[.string s] w fun e w' => e = .returned (.int .i64 0) ∧ Below w.heap.size w w') := Lib.hid (fun w => num_of hv hz w)
  have HE : Hid (toS (textV ns (.bool 0)) = ⟨#[102, 97, 108, 115, 101]⟩) := Lib.hid rfl
  change Hid (∀ w, Calls _ _ _ w fun e w' => e = .returned (.int .i64 2) ∧ _) at HK
  clear hv hz hN
  go_enter Tryz.func8, Tryz.ntmps8
  go_wp2_with fail
  refine (HPT.out _).mono ?_
  rintro e w1 ⟨A, c, ps, rfl, hI1, hP1, hb1, hcl⟩
  have HB1 := hide hb1
  have HI1 := hide hI1
  have HP1 := Lib.hid hP1
  clear hb1 hI1 hP1
  go_wp2_with fail
  refine (HK.out _).mono ?_
  rintro e w2 ⟨rfl, hb2⟩
  have HB2 := hide ((unhide HB1).trans (hb2.mono (unhide HB1).size))
  have HI2 := hide ((unhide HI1).below hb2)
  clear hb2 HB1 HI1
  have HBL := hide (Blk.new w2 9 #[.string ⟨#[102, 97, 108, 115, 101]⟩, .string ⟨#[116, 114, 117, 101]⟩])
  have HBA := hide ((unhide HB2).alloc (unhide HB2).size (.cells #[.string ⟨#[102, 97, 108, 115, 101]⟩, .string ⟨#[116, 114, 117, 101]⟩] 9))
  go_wp2_with fail
  refine (HNU.out _).mono ?_
  rintro e w3 ⟨rfl, hb3⟩
  have HB3 := hide ((unhide HBA).trans (hb3.mono (unhide HBA).size))
  have hbl := (unhide HBL).below hb3 (unhide HBL).lt
  have d0 : w3.cell? ⟨w2.heap.size, 0, none⟩ = some (.string ⟨#[102, 97, 108, 115, 101]⟩) := hbl.cell 0
  have d1 : w3.cell? ⟨w2.heap.size, 1, none⟩ = some (.string ⟨#[116, 114, 117, 101]⟩) := hbl.cell 1
  clear hb3 hbl HBL HBA HB2
  go_wp2_with fail
  go_ret
  exact ⟨by rw [HE.out]; rfl, unhide HB3⟩
set_option linter.unusedVariables false in
set_option linter.unusedSimpArgs false in
set_option maxRecDepth 100000 in
set_option maxHeartbeats 6400000 in
theorem rtext_b1 (s : ByteArray) (ns : List ByteArray) (nn cn : Nat) (hv : valB 32 s = true ∧ treeB s = .bool 1) (hz : s.size ≤ 131072) (W : World) (An : Option Addr) (hN : InC W An (ns.map Value.string))  :
    Calls Tryz.prog 8 #[.string s, .slice An nn cn] W fun e w' => e = .returned (.string (toS (textV ns (.bool 1)))) ∧ Below W.heap.size W w' := by
  have HPT := Lib.hid (fun w => parts_of hv hz w)
  have HK := Lib.hid (fun w => kind_of hv hz w)
  have HNU : Hid (∀ w, Calls Tryz.prog 31 #[.string s] w fun e w' => e = .returned (.int .i64 1) ∧ Below w.heap.size w w') := Lib.hid (fun w => num_of hv hz w)
  have HE : Hid (toS (textV ns (.bool 1)) = ⟨#[116, 114, 117, 101]⟩) := Lib.hid rfl
  change Hid (∀ w, Calls _ _ _ w fun e w' => e = .returned (.int .i64 2) ∧ _) at HK
  clear hv hz hN
  go_enter Tryz.func8, Tryz.ntmps8
  go_wp2_with fail
  refine (HPT.out _).mono ?_
  rintro e w1 ⟨A, c, ps, rfl, hI1, hP1, hb1, hcl⟩
  have HB1 := hide hb1
  have HI1 := hide hI1
  have HP1 := Lib.hid hP1
  clear hb1 hI1 hP1
  go_wp2_with fail
  refine (HK.out _).mono ?_
  rintro e w2 ⟨rfl, hb2⟩
  have HB2 := hide ((unhide HB1).trans (hb2.mono (unhide HB1).size))
  have HI2 := hide ((unhide HI1).below hb2)
  clear hb2 HB1 HI1
  have HBL := hide (Blk.new w2 9 #[.string ⟨#[102, 97, 108, 115, 101]⟩, .string ⟨#[116, 114, 117, 101]⟩])
  have HBA := hide ((unhide HB2).alloc (unhide HB2).size (.cells #[.string ⟨#[102, 97, 108, 115, 101]⟩, .string ⟨#[116, 114, 117, 101]⟩] 9))
  go_wp2_with fail
  refine (HNU.out _).mono ?_
  rintro e w3 ⟨rfl, hb3⟩
  have HB3 := hide ((unhide HBA).trans (hb3.mono (unhide HBA).size))
  have hbl := (unhide HBL).below hb3 (unhide HBL).lt
  have d0 : w3.cell? ⟨w2.heap.size, 0, none⟩ = some (.string ⟨#[102, 97, 108, 115, 101]⟩) := hbl.cell 0
  have d1 : w3.cell? ⟨w2.heap.size, 1, none⟩ = some (.string ⟨#[116, 114, 117, 101]⟩) := hbl.cell 1
  clear hb3 hbl HBL HBA HB2
  go_wp2_with fail
  go_ret
  exact ⟨by rw [HE.out]; rfl, unhide HB3⟩
set_option linter.unusedVariables false in
set_option linter.unusedSimpArgs false in
set_option maxRecDepth 100000 in
set_option maxHeartbeats 6400000 in
theorem rtext_name_yes (s : ByteArray) (ns : List ByteArray) (nn cn : Nat) (a b : UInt8) (u : ByteArray) (hq : ns[a.toNat * 256 + b.toNat]? = some u) (hv : valB 32 s = true ∧ treeB s = .name a b) (hz : s.size ≤ 131072) (W : World) (An : Option Addr) (hN : InC W An (ns.map Value.string)) (hnn : nn = ns.length) :
    Calls Tryz.prog 8 #[.string s, .slice An nn cn] W fun e w' => e = .returned (.string (toS (textV ns (.name a b)))) ∧ Below W.heap.size W w' := by
  obtain ⟨m, hm⟩ : ∃ m, m = a.toNat * 256 + b.toNat := ⟨_, rfl⟩
  have hmb : m < 65536 := by have := a.toNat_lt; have := b.toNat_lt; omega
  have HPT := Lib.hid (fun w => parts_of hv hz w)
  have HK := Lib.hid (fun w => kind_of hv hz w)
  have HNU : Hid (∀ w, Calls Tryz.prog 31 #[.string s] w fun e w' => e = .returned (.int .i64 (m : Int)) ∧ Below w.heap.size w w') := Lib.hid (fun w => by rw [hm]; exact num_of hv hz w)
  change Hid (∀ w, Calls _ _ _ w fun e w' => e = .returned (.int .i64 10) ∧ _) at HK
  rw [← hm] at hq
  have HE : Hid (toS (textV ns (.name a b)) = u) := Lib.hid (by
    show toS (nameT ns (a.toNat * 256 + b.toNat)) = u
    rw [← hm]
    unfold nameT
    rw [hq]; rfl)
  have hlt : m < nn := by rw [hnn]; exact (List.getElem?_eq_some_iff.1 hq).1
  have HNI := hide hN
  have HQ : Hid ((ns.map Value.string)[m]? = some (.string u)) := Lib.hid (by rw [List.getElem?_map, hq]; rfl)
  clear hv hz hN hq hm hnn
  go_enter Tryz.func8, Tryz.ntmps8
  go_wp2_with fail
  refine (HPT.out _).mono ?_
  rintro e w1 ⟨A, c, ps, rfl, hI1, hP1, hb1, hcl⟩
  have HB1 := hide hb1
  have HI1 := hide hI1
  have HP1 := Lib.hid hP1
  clear hb1 hI1 hP1
  go_wp2_with fail
  refine (HK.out _).mono ?_
  rintro e w2 ⟨rfl, hb2⟩
  have HB2 := hide ((unhide HB1).trans (hb2.mono (unhide HB1).size))
  have HI2 := hide ((unhide HI1).below hb2)
  clear hb2 HB1 HI1
  go_wp2_with fail
  refine (HNU.out _).mono ?_
  rintro e w3 ⟨rfl, hb3⟩
  have HB3 := hide ((unhide HB2).trans (hb3.mono (unhide HB2).size))
  clear hb3 HB2
  obtain ⟨b5, o5, hA1, hb5, hc5⟩ := at1s ((unhide HNI).below (unhide HB3)) HQ.out
  subst hA1
  have hlt2 : (m : Int) < (nn : Int) := by omega
  go_wp2_with fail
  go_ret
  exact ⟨by rw [HE.out]; rfl, unhide HB3⟩
set_option linter.unusedVariables false in
set_option linter.unusedSimpArgs false in
set_option maxRecDepth 100000 in
set_option maxHeartbeats 6400000 in
theorem rtext_name_no (s : ByteArray) (ns : List ByteArray) (nn cn : Nat) (a b : UInt8) (hq : ns[a.toNat * 256 + b.toNat]? = none) (hv : valB 32 s = true ∧ treeB s = .name a b) (hz : s.size ≤ 131072) (W : World) (An : Option Addr) (hN : InC W An (ns.map Value.string)) (hnn : nn = ns.length) :
    Calls Tryz.prog 8 #[.string s, .slice An nn cn] W fun e w' => e = .returned (.string (toS (textV ns (.name a b)))) ∧ Below W.heap.size W w' := by
  obtain ⟨m, hm⟩ : ∃ m, m = a.toNat * 256 + b.toNat := ⟨_, rfl⟩
  have hmb : m < 65536 := by have := a.toNat_lt; have := b.toNat_lt; omega
  have HPT := Lib.hid (fun w => parts_of hv hz w)
  have HK := Lib.hid (fun w => kind_of hv hz w)
  have HNU : Hid (∀ w, Calls Tryz.prog 31 #[.string s] w fun e w' => e = .returned (.int .i64 (m : Int)) ∧ Below w.heap.size w w') := Lib.hid (fun w => by rw [hm]; exact num_of hv hz w)
  change Hid (∀ w, Calls _ _ _ w fun e w' => e = .returned (.int .i64 10) ∧ _) at HK
  rw [← hm] at hq
  have HE : Hid (toS (textV ns (.name a b)) = toS [63] ++ decS (m : Int)) := Lib.hid (by
    show toS (nameT ns (a.toNat * 256 + b.toNat)) = _
    rw [← hm]
    unfold nameT
    rw [hq]
    exact (toS_app [63] (Go.Lib.itoa (m : Int))).symm)
  have hlt : nn ≤ m := by rw [hnn]; exact List.getElem?_eq_none_iff.1 hq
  have HD := Lib.hid (fun w => rdec_any (m : Int) (by omega) w)
  have hds : (decS (m : Int)).size ≤ 21 := Go.Lib.itoa_length_le (m : Int) (by omega) (by omega)
  clear hv hz hN hq hm hnn
  go_enter Tryz.func8, Tryz.ntmps8
  go_wp2_with fail
  refine (HPT.out _).mono ?_
  rintro e w1 ⟨A, c, ps, rfl, hI1, hP1, hb1, hcl⟩
  have HB1 := hide hb1
  have HI1 := hide hI1
  have HP1 := Lib.hid hP1
  clear hb1 hI1 hP1
  go_wp2_with fail
  refine (HK.out _).mono ?_
  rintro e w2 ⟨rfl, hb2⟩
  have HB2 := hide ((unhide HB1).trans (hb2.mono (unhide HB1).size))
  have HI2 := hide ((unhide HI1).below hb2)
  clear hb2 HB1 HI1
  go_wp2_with fail
  refine (HNU.out _).mono ?_
  rintro e w3 ⟨rfl, hb3⟩
  have HB3 := hide ((unhide HB2).trans (hb3.mono (unhide HB2).size))
  clear hb3 HB2
  go_wp2_with fail
  refine (HNU.out _).mono ?_
  rintro e w4 ⟨rfl, hb4⟩
  have HB4 := hide ((unhide HB3).trans (hb4.mono (unhide HB3).size))
  clear hb4 HB3
  go_wp2_with fail
  refine (HD.out _).mono ?_
  rintro e w5 ⟨rfl, rfl⟩
  generalize decS (m : Int) = ds at *
  go_wp2_with fail
  go_ret
  exact ⟨by rw [HE.out]; rfl, unhide HB4⟩
set_option linter.unusedVariables false in
set_option linter.unusedSimpArgs false in
set_option maxRecDepth 100000 in
set_option maxHeartbeats 6400000 in
theorem rtext_c3 (s : ByteArray) (ns : List ByteArray) (nn cn : Nat) (d : Nat) (ih : RtCon ns nn cn d) (l : List V) (hw : ∀ v ∈ l, wf d v = true) (hps : ∀ ps : List ByteArray, ps.map bs = l.map enc → (∀ s ∈ ps, s.size ≤ 131072) ∧ ps.length ≤ 65535) (hv : valB 32 s = true ∧ treeB s = .comp 3 l) (hz : s.size ≤ 131072) (W : World) (An : Option Addr) (hN : InC W An (ns.map Value.string)) (hlen : (textV ns (.comp 3 l)).length ≤ 70368744170000) :
    Calls Tryz.prog 8 #[.string s, .slice An nn cn] W fun e w' => e = .returned (.string (toS (textV ns (.comp 3 l)))) ∧ Below W.heap.size W w' := by
  have HPT := Lib.hid (fun w => parts_of hv hz w)
  have HK := Lib.hid (fun w => kind_of hv hz w)
  have HJ := Lib.hid (fun (w : World) A c ps hp hI hN hl => joined_any d ns nn cn ih l ps hw hp (hps ps hp).1 [44, 32] A An ps.length c rfl (by have := (hps ps hp).2; omega) w hI hN hl)
  have HPS := Lib.hid hps
  have HNI := hide hN
  have HE : Hid (textV ns (.comp 3 l) = [40] ++ textJ ns [44, 32] 0 l ++ [41]) := Lib.hid (by
    show opnT 3 ++ textsV ns 3 0 l ++ clsT 3 = _
    rw [textsV_J ns 3 [44, 32] (fun i => rfl)]
    rfl)
  have HLJ : Hid ((textJ ns [44, 32] 0 l).length ≤ 70368744170000) := Lib.hid (by
    have := HE.out
    rw [this, List.length_append, List.length_append] at hlen
    omega)
  change Hid (∀ w, Calls _ _ _ w fun e w' => e = .returned (.int .i64 3) ∧ _) at HK
  clear hv hz hN hlen hw hps ih
  go_enter Tryz.func8, Tryz.ntmps8
  go_wp2_with fail
  refine (HPT.out _).mono ?_
  rintro e w1 ⟨A, c, ps, rfl, hI1, hP1, hb1, hcl⟩
  have HB1 := hide hb1
  have HI1 := hide hI1
  have HP1 := Lib.hid hP1
  clear hb1 hI1 hP1
  go_wp2_with fail
  refine (HK.out _).mono ?_
  rintro e w2 ⟨rfl, hb2⟩
  have HB2 := hide ((unhide HB1).trans (hb2.mono (unhide HB1).size))
  have HI2 := hide ((unhide HI1).below hb2)
  clear hb2 HB1 HI1
  have HNW := hide ((unhide HNI).below (unhide HB2))
  have hpl : ps.length ≤ 65535 := (HPS.out ps HP1.out).2
  have HC := hide (HJ.out w2 A c ps HP1.out (unhide HI2) (unhide HNW) HLJ.out)
  have hzj : (toS (textJ ns [44, 32] 0 l)).size ≤ 70368744170000 := HLJ.out
  go_wp2_with fail
  refine (unhide HC).mono ?_
  rintro e w3 ⟨rfl, hb3⟩
  have HB3 := hide ((unhide HB2).trans (hb3.mono (unhide HB2).size))
  clear hb3 HB2
  have HF : Hid (toS [40] ++ toS (textJ ns [44, 32] 0 l) ++ toS [41] = toS (textV ns (.comp 3 l))) := Lib.hid (by rw [HE.out, ← toS_app, ← toS_app])
  generalize hjt : toS (textJ ns [44, 32] 0 l) = jt at *
  go_wp2_with fail
  go_ret
  exact ⟨by rw [← HF.out]; rfl, unhide HB3⟩
set_option linter.unusedVariables false in
set_option linter.unusedSimpArgs false in
set_option maxRecDepth 100000 in
set_option maxHeartbeats 6400000 in
theorem rtext_c4 (s : ByteArray) (ns : List ByteArray) (nn cn : Nat) (d : Nat) (ih : RtCon ns nn cn d) (l : List V) (hw : ∀ v ∈ l, wf d v = true) (hps : ∀ ps : List ByteArray, ps.map bs = l.map enc → (∀ s ∈ ps, s.size ≤ 131072) ∧ ps.length ≤ 65535) (hv : valB 32 s = true ∧ treeB s = .comp 4 l) (hz : s.size ≤ 131072) (W : World) (An : Option Addr) (hN : InC W An (ns.map Value.string)) (hlen : (textV ns (.comp 4 l)).length ≤ 70368744170000) :
    Calls Tryz.prog 8 #[.string s, .slice An nn cn] W fun e w' => e = .returned (.string (toS (textV ns (.comp 4 l)))) ∧ Below W.heap.size W w' := by
  have HPT := Lib.hid (fun w => parts_of hv hz w)
  have HK := Lib.hid (fun w => kind_of hv hz w)
  have HJ := Lib.hid (fun (w : World) A c ps hp hI hN hl => joined_any d ns nn cn ih l ps hw hp (hps ps hp).1 [44, 32] A An ps.length c rfl (by have := (hps ps hp).2; omega) w hI hN hl)
  have HPS := Lib.hid hps
  have HNI := hide hN
  have HE : Hid (textV ns (.comp 4 l) = [60] ++ textJ ns [44, 32] 0 l ++ [62]) := Lib.hid (by
    show opnT 4 ++ textsV ns 4 0 l ++ clsT 4 = _
    rw [textsV_J ns 4 [44, 32] (fun i => rfl)]
    rfl)
  have HLJ : Hid ((textJ ns [44, 32] 0 l).length ≤ 70368744170000) := Lib.hid (by
    have := HE.out
    rw [this, List.length_append, List.length_append] at hlen
    omega)
  change Hid (∀ w, Calls _ _ _ w fun e w' => e = .returned (.int .i64 4) ∧ _) at HK
  clear hv hz hN hlen hw hps ih
  go_enter Tryz.func8, Tryz.ntmps8
  go_wp2_with fail
  refine (HPT.out _).mono ?_
  rintro e w1 ⟨A, c, ps, rfl, hI1, hP1, hb1, hcl⟩
  have HB1 := hide hb1
  have HI1 := hide hI1
  have HP1 := Lib.hid hP1
  clear hb1 hI1 hP1
  go_wp2_with fail
  refine (HK.out _).mono ?_
  rintro e w2 ⟨rfl, hb2⟩
  have HB2 := hide ((unhide HB1).trans (hb2.mono (unhide HB1).size))
  have HI2 := hide ((unhide HI1).below hb2)
  clear hb2 HB1 HI1
  have HNW := hide ((unhide HNI).below (unhide HB2))
  have hpl : ps.length ≤ 65535 := (HPS.out ps HP1.out).2
  have HC := hide (HJ.out w2 A c ps HP1.out (unhide HI2) (unhide HNW) HLJ.out)
  have hzj : (toS (textJ ns [44, 32] 0 l)).size ≤ 70368744170000 := HLJ.out
  go_wp2_with fail
  refine (unhide HC).mono ?_
  rintro e w3 ⟨rfl, hb3⟩
  have HB3 := hide ((unhide HB2).trans (hb3.mono (unhide HB2).size))
  clear hb3 HB2
  have HF : Hid (toS [60] ++ toS (textJ ns [44, 32] 0 l) ++ toS [62] = toS (textV ns (.comp 4 l))) := Lib.hid (by rw [HE.out, ← toS_app, ← toS_app])
  generalize hjt : toS (textJ ns [44, 32] 0 l) = jt at *
  go_wp2_with fail
  go_ret
  exact ⟨by rw [← HF.out]; rfl, unhide HB3⟩
set_option linter.unusedVariables false in
set_option linter.unusedSimpArgs false in
set_option maxRecDepth 100000 in
set_option maxHeartbeats 6400000 in
theorem rtext_c5 (s : ByteArray) (ns : List ByteArray) (nn cn : Nat) (d : Nat) (ih : RtCon ns nn cn d) (l : List V) (hw : ∀ v ∈ l, wf d v = true) (hps : ∀ ps : List ByteArray, ps.map bs = l.map enc → (∀ s ∈ ps, s.size ≤ 131072) ∧ ps.length ≤ 65535) (hv : valB 32 s = true ∧ treeB s = .comp 5 l) (hz : s.size ≤ 131072) (W : World) (An : Option Addr) (hN : InC W An (ns.map Value.string)) (hlen : (textV ns (.comp 5 l)).length ≤ 70368744170000) :
    Calls Tryz.prog 8 #[.string s, .slice An nn cn] W fun e w' => e = .returned (.string (toS (textV ns (.comp 5 l)))) ∧ Below W.heap.size W w' := by
  have HPT := Lib.hid (fun w => parts_of hv hz w)
  have HK := Lib.hid (fun w => kind_of hv hz w)
  have HJ := Lib.hid (fun (w : World) A c ps hp hI hN hl => joined_any d ns nn cn ih l ps hw hp (hps ps hp).1 [44, 32] A An ps.length c rfl (by have := (hps ps hp).2; omega) w hI hN hl)
  have HPS := Lib.hid hps
  have HNI := hide hN
  have HE : Hid (textV ns (.comp 5 l) = [123] ++ textJ ns [44, 32] 0 l ++ [125]) := Lib.hid (by
    show opnT 5 ++ textsV ns 5 0 l ++ clsT 5 = _
    rw [textsV_J ns 5 [44, 32] (fun i => rfl)]
    rfl)
  have HLJ : Hid ((textJ ns [44, 32] 0 l).length ≤ 70368744170000) := Lib.hid (by
    have := HE.out
    rw [this, List.length_append, List.length_append] at hlen
    omega)
  change Hid (∀ w, Calls _ _ _ w fun e w' => e = .returned (.int .i64 5) ∧ _) at HK
  clear hv hz hN hlen hw hps ih
  go_enter Tryz.func8, Tryz.ntmps8
  go_wp2_with fail
  refine (HPT.out _).mono ?_
  rintro e w1 ⟨A, c, ps, rfl, hI1, hP1, hb1, hcl⟩
  have HB1 := hide hb1
  have HI1 := hide hI1
  have HP1 := Lib.hid hP1
  clear hb1 hI1 hP1
  go_wp2_with fail
  refine (HK.out _).mono ?_
  rintro e w2 ⟨rfl, hb2⟩
  have HB2 := hide ((unhide HB1).trans (hb2.mono (unhide HB1).size))
  have HI2 := hide ((unhide HI1).below hb2)
  clear hb2 HB1 HI1
  have HNW := hide ((unhide HNI).below (unhide HB2))
  have hpl : ps.length ≤ 65535 := (HPS.out ps HP1.out).2
  have HC := hide (HJ.out w2 A c ps HP1.out (unhide HI2) (unhide HNW) HLJ.out)
  have hzj : (toS (textJ ns [44, 32] 0 l)).size ≤ 70368744170000 := HLJ.out
  go_wp2_with fail
  refine (unhide HC).mono ?_
  rintro e w3 ⟨rfl, hb3⟩
  have HB3 := hide ((unhide HB2).trans (hb3.mono (unhide HB2).size))
  clear hb3 HB2
  have HF : Hid (toS [123] ++ toS (textJ ns [44, 32] 0 l) ++ toS [125] = toS (textV ns (.comp 5 l))) := Lib.hid (by rw [HE.out, ← toS_app, ← toS_app])
  generalize hjt : toS (textJ ns [44, 32] 0 l) = jt at *
  go_wp2_with fail
  go_ret
  exact ⟨by rw [← HF.out]; rfl, unhide HB3⟩
set_option linter.unusedVariables false in
set_option linter.unusedSimpArgs false in
set_option maxRecDepth 100000 in
set_option maxHeartbeats 6400000 in
theorem rtext_c8 (s : ByteArray) (ns : List ByteArray) (nn cn : Nat) (d : Nat) (ih : RtCon ns nn cn d) (l : List V) (hw : ∀ v ∈ l, wf d v = true) (hps : ∀ ps : List ByteArray, ps.map bs = l.map enc → (∀ s ∈ ps, s.size ≤ 131072) ∧ ps.length ≤ 65535) (hv : valB 32 s = true ∧ treeB s = .comp 8 l) (hz : s.size ≤ 131072) (W : World) (An : Option Addr) (hN : InC W An (ns.map Value.string)) (hlen : (textV ns (.comp 8 l)).length ≤ 70368744170000) :
    Calls Tryz.prog 8 #[.string s, .slice An nn cn] W fun e w' => e = .returned (.string (toS (textV ns (.comp 8 l)))) ∧ Below W.heap.size W w' := by
  have HPT := Lib.hid (fun w => parts_of hv hz w)
  have HK := Lib.hid (fun w => kind_of hv hz w)
  have HJ := Lib.hid (fun (w : World) A c ps hp hI hN hl => joined_any d ns nn cn ih l ps hw hp (hps ps hp).1 [44, 32] A An ps.length c rfl (by have := (hps ps hp).2; omega) w hI hN hl)
  have HPS := Lib.hid hps
  have HNI := hide hN
  have HE : Hid (textV ns (.comp 8 l) = [102, 117, 110, 40] ++ textJ ns [44, 32] 0 l ++ [41]) := Lib.hid (by
    show opnT 8 ++ textsV ns 8 0 l ++ clsT 8 = _
    rw [textsV_J ns 8 [44, 32] (fun i => rfl)]
    rfl)
  have HLJ : Hid ((textJ ns [44, 32] 0 l).length ≤ 70368744170000) := Lib.hid (by
    have := HE.out
    rw [this, List.length_append, List.length_append] at hlen
    omega)
  change Hid (∀ w, Calls _ _ _ w fun e w' => e = .returned (.int .i64 8) ∧ _) at HK
  clear hv hz hN hlen hw hps ih
  go_enter Tryz.func8, Tryz.ntmps8
  go_wp2_with fail
  refine (HPT.out _).mono ?_
  rintro e w1 ⟨A, c, ps, rfl, hI1, hP1, hb1, hcl⟩
  have HB1 := hide hb1
  have HI1 := hide hI1
  have HP1 := Lib.hid hP1
  clear hb1 hI1 hP1
  go_wp2_with fail
  refine (HK.out _).mono ?_
  rintro e w2 ⟨rfl, hb2⟩
  have HB2 := hide ((unhide HB1).trans (hb2.mono (unhide HB1).size))
  have HI2 := hide ((unhide HI1).below hb2)
  clear hb2 HB1 HI1
  have HNW := hide ((unhide HNI).below (unhide HB2))
  have hpl : ps.length ≤ 65535 := (HPS.out ps HP1.out).2
  have HC := hide (HJ.out w2 A c ps HP1.out (unhide HI2) (unhide HNW) HLJ.out)
  have hzj : (toS (textJ ns [44, 32] 0 l)).size ≤ 70368744170000 := HLJ.out
  go_wp2_with fail
  refine (unhide HC).mono ?_
  rintro e w3 ⟨rfl, hb3⟩
  have HB3 := hide ((unhide HB2).trans (hb3.mono (unhide HB2).size))
  clear hb3 HB2
  have HF : Hid (toS [102, 117, 110, 40] ++ toS (textJ ns [44, 32] 0 l) ++ toS [41] = toS (textV ns (.comp 8 l))) := Lib.hid (by rw [HE.out, ← toS_app, ← toS_app])
  generalize hjt : toS (textJ ns [44, 32] 0 l) = jt at *
  go_wp2_with fail
  go_ret
  exact ⟨by rw [← HF.out]; rfl, unhide HB3⟩
set_option linter.unusedVariables false in
set_option linter.unusedSimpArgs false in
set_option maxRecDepth 100000 in
set_option maxHeartbeats 6400000 in
theorem rtext_c9 (s : ByteArray) (ns : List ByteArray) (nn cn : Nat) (d : Nat) (ih : RtCon ns nn cn d) (l : List V) (hw : ∀ v ∈ l, wf d v = true) (hps : ∀ ps : List ByteArray, ps.map bs = l.map enc → (∀ s ∈ ps, s.size ≤ 131072) ∧ ps.length ≤ 65535) (hv : valB 32 s = true ∧ treeB s = .comp 9 l) (hz : s.size ≤ 131072) (W : World) (An : Option Addr) (hN : InC W An (ns.map Value.string)) (hlen : (textV ns (.comp 9 l)).length ≤ 70368744170000) :
    Calls Tryz.prog 8 #[.string s, .slice An nn cn] W fun e w' => e = .returned (.string (toS (textV ns (.comp 9 l)))) ∧ Below W.heap.size W w' := by
  have HPT := Lib.hid (fun w => parts_of hv hz w)
  have HK := Lib.hid (fun w => kind_of hv hz w)
  have HJ := Lib.hid (fun (w : World) A c ps hp hI hN hl => joined_any d ns nn cn ih l ps hw hp (hps ps hp).1 [44, 32] A An ps.length c rfl (by have := (hps ps hp).2; omega) w hI hN hl)
  have HPS := Lib.hid hps
  have HNI := hide hN
  have HE : Hid (textV ns (.comp 9 l) = [112, 114, 111, 99, 40] ++ textJ ns [44, 32] 0 l ++ [41]) := Lib.hid (by
    show opnT 9 ++ textsV ns 9 0 l ++ clsT 9 = _
    rw [textsV_J ns 9 [44, 32] (fun i => rfl)]
    rfl)
  have HLJ : Hid ((textJ ns [44, 32] 0 l).length ≤ 70368744170000) := Lib.hid (by
    have := HE.out
    rw [this, List.length_append, List.length_append] at hlen
    omega)
  change Hid (∀ w, Calls _ _ _ w fun e w' => e = .returned (.int .i64 9) ∧ _) at HK
  clear hv hz hN hlen hw hps ih
  go_enter Tryz.func8, Tryz.ntmps8
  go_wp2_with fail
  refine (HPT.out _).mono ?_
  rintro e w1 ⟨A, c, ps, rfl, hI1, hP1, hb1, hcl⟩
  have HB1 := hide hb1
  have HI1 := hide hI1
  have HP1 := Lib.hid hP1
  clear hb1 hI1 hP1
  go_wp2_with fail
  refine (HK.out _).mono ?_
  rintro e w2 ⟨rfl, hb2⟩
  have HB2 := hide ((unhide HB1).trans (hb2.mono (unhide HB1).size))
  have HI2 := hide ((unhide HI1).below hb2)
  clear hb2 HB1 HI1
  have HNW := hide ((unhide HNI).below (unhide HB2))
  have hpl : ps.length ≤ 65535 := (HPS.out ps HP1.out).2
  have HC := hide (HJ.out w2 A c ps HP1.out (unhide HI2) (unhide HNW) HLJ.out)
  have hzj : (toS (textJ ns [44, 32] 0 l)).size ≤ 70368744170000 := HLJ.out
  go_wp2_with fail
  refine (unhide HC).mono ?_
  rintro e w3 ⟨rfl, hb3⟩
  have HB3 := hide ((unhide HB2).trans (hb3.mono (unhide HB2).size))
  clear hb3 HB2
  have HF : Hid (toS [112, 114, 111, 99, 40] ++ toS (textJ ns [44, 32] 0 l) ++ toS [41] = toS (textV ns (.comp 9 l))) := Lib.hid (by rw [HE.out, ← toS_app, ← toS_app])
  generalize hjt : toS (textJ ns [44, 32] 0 l) = jt at *
  go_wp2_with fail
  go_ret
  exact ⟨by rw [← HF.out]; rfl, unhide HB3⟩
set_option linter.unusedVariables false in
set_option linter.unusedSimpArgs false in
set_option maxRecDepth 100000 in
set_option maxHeartbeats 6400000 in
theorem rtext_c7 (s : ByteArray) (ns : List ByteArray) (nn cn : Nat) (d : Nat) (ih : RtCon ns nn cn d) (l : List V) (hw : ∀ v ∈ l, wf d v = true) (hps : ∀ ps : List ByteArray, ps.map bs = l.map enc → (∀ s ∈ ps, s.size ≤ 131072) ∧ ps.length ≤ 65535) (hv : valB 32 s = true ∧ treeB s = .comp 7 l) (hz : s.size ≤ 131072) (W : World) (An : Option Addr) (hN : InC W An (ns.map Value.string)) (hlen : (textV ns (.comp 7 l)).length ≤ 70368744170000) :
    Calls Tryz.prog 8 #[.string s, .slice An nn cn] W fun e w' => e = .returned (.string (toS (textV ns (.comp 7 l)))) ∧ Below W.heap.size W w' := by
  have HPT := Lib.hid (fun w => parts_of hv hz w)
  have HK := Lib.hid (fun w => kind_of hv hz w)
  have HJ := Lib.hid (fun (w : World) A c ps hp hI hN hl => joined_any d ns nn cn ih l ps hw hp (hps ps hp).1 [46] A An ps.length c rfl (by have := (hps ps hp).2; omega) w hI hN hl)
  have HPS := Lib.hid hps
  have HNI := hide hN
  have HE : Hid (textV ns (.comp 7 l) = [] ++ textJ ns [46] 0 l ++ []) := Lib.hid (by
    show opnT 7 ++ textsV ns 7 0 l ++ clsT 7 = _
    rw [textsV_J ns 7 [46] (fun i => rfl)]
    rfl)
  have HLJ : Hid ((textJ ns [46] 0 l).length ≤ 70368744170000) := Lib.hid (by
    have := HE.out
    rw [this, List.length_append, List.length_append] at hlen
    omega)
  change Hid (∀ w, Calls _ _ _ w fun e w' => e = .returned (.int .i64 7) ∧ _) at HK
  clear hv hz hN hlen hw hps ih
  go_enter Tryz.func8, Tryz.ntmps8
  go_wp2_with fail
  refine (HPT.out _).mono ?_
  rintro e w1 ⟨A, c, ps, rfl, hI1, hP1, hb1, hcl⟩
  have HB1 := hide hb1
  have HI1 := hide hI1
  have HP1 := Lib.hid hP1
  clear hb1 hI1 hP1
  go_wp2_with fail
  refine (HK.out _).mono ?_
  rintro e w2 ⟨rfl, hb2⟩
  have HB2 := hide ((unhide HB1).trans (hb2.mono (unhide HB1).size))
  have HI2 := hide ((unhide HI1).below hb2)
  clear hb2 HB1 HI1
  have HNW := hide ((unhide HNI).below (unhide HB2))
  have hpl : ps.length ≤ 65535 := (HPS.out ps HP1.out).2
  have HC := hide (HJ.out w2 A c ps HP1.out (unhide HI2) (unhide HNW) HLJ.out)
  have hzj : (toS (textJ ns [46] 0 l)).size ≤ 70368744170000 := HLJ.out
  go_wp2_with fail
  refine (unhide HC).mono ?_
  rintro e w3 ⟨rfl, hb3⟩
  have HB3 := hide ((unhide HB2).trans (hb3.mono (unhide HB2).size))
  clear hb3 HB2
  have HF : Hid (toS (textJ ns [46] 0 l) = toS (textV ns (.comp 7 l))) := Lib.hid (by rw [HE.out, List.nil_append, List.append_nil])
  generalize hjt : toS (textJ ns [46] 0 l) = jt at *
  go_wp2_with fail
  go_ret
  exact ⟨by rw [← HF.out]; rfl, unhide HB3⟩
theorem textsV_two (ns : List ByteArray) {l : List V} {i : Nat} {x y : V} (hi : i % 2 = 0) (hx : l[i]? = some x) (hy : l[i + 1]? = some y) : textsV ns 6 0 (l.take (i + 2)) = textsV ns 6 0 (l.take i) ++ ((if i = 0 then [] else [44, 32]) ++ textJ ns [32, 61, 62, 32] 0 [x, y]) := by
  rw [show i + 2 = i + 1 + 1 from rfl, textsV_step ns 6 hy, textsV_step ns 6 hx, if_neg (Nat.succ_ne_zero i)]
  have e1 : sepT 6 (i + 1) = [32, 61, 62, 32] := by unfold sepT; rw [if_neg (by decide), if_pos ⟨rfl, by omega⟩]
  have e2 : sepT 6 i = [44, 32] := by unfold sepT; rw [if_neg (by decide), if_neg (fun q => by omega)]
  have e3 : textJ ns [32, 61, 62, 32] 0 [x, y] = textV ns x ++ ([32, 61, 62, 32] ++ textV ns y) := by
    show [] ++ textV ns x ++ ([32, 61, 62, 32] ++ textV ns y ++ []) = _
    rw [List.nil_append, List.append_nil]
  rw [e1, e2, e3]
  simp only [List.append_assoc]
set_option linter.unusedVariables false in
set_option linter.unusedSimpArgs false in
set_option maxRecDepth 100000 in
set_option maxHeartbeats 6400000 in
theorem rtext_c6 (s : ByteArray) (ns : List ByteArray) (nn cn : Nat) (d : Nat) (ih : RtCon ns nn cn d) (l : List V) (hw : ∀ v ∈ l, wf d v = true) (hev : l.length % 2 = 0) (hps : ∀ ps : List ByteArray, ps.map bs = l.map enc → (∀ s ∈ ps, s.size ≤ 131072) ∧ ps.length ≤ 65535) (hv : valB 32 s = true ∧ treeB s = .comp 6 l) (hz : s.size ≤ 131072) (W : World) (An : Option Addr) (hN : InC W An (ns.map Value.string)) (hlen : (textV ns (.comp 6 l)).length ≤ 70368744170000) :
    Calls Tryz.prog 8 #[.string s, .slice An nn cn] W fun e w' => e = .returned (.string (toS (textV ns (.comp 6 l)))) ∧ Below W.heap.size W w' := by
  have HPT := Lib.hid (fun w => parts_of hv hz w)
  have HK := Lib.hid (fun w => kind_of hv hz w)
  have HJ := Lib.hid (fun (w : World) (l2 : List V) (ps2 : List ByteArray) A n c hwl hp hsz hn hn1 hI hN hl => joined_any d ns nn cn ih l2 ps2 hwl hp hsz [32, 61, 62, 32] A An n c hn hn1 w hI hN hl)
  have HPS := Lib.hid hps
  have HWF := Lib.hid hw
  have HEV := Lib.hid hev
  have HNI := hide hN
  have HE : Hid (textV ns (.comp 6 l) = [40, 124] ++ textsV ns 6 0 l ++ [124, 41]) := Lib.hid rfl
  have HLJ : Hid ((textsV ns 6 0 l).length ≤ 70368744169996) := Lib.hid (by
    have := HE.out
    rw [this, List.length_append, List.length_append] at hlen
    simp at hlen
    omega)
  change Hid (∀ w, Calls _ _ _ w fun e w' => e = .returned (.int .i64 6) ∧ _) at HK
  clear hv hz hN hlen hw hps ih hev
  go_enter Tryz.func8, Tryz.ntmps8
  go_wp2_with fail
  refine (HPT.out _).mono ?_
  rintro e w1 ⟨A, c, ps, rfl, hI1, hP1, hb1, hcl⟩
  have HB1 := hide hb1
  have HI1 := hide hI1
  have HP1 := Lib.hid hP1
  clear hb1 hI1 hP1
  go_wp2_with fail
  refine (HK.out _).mono ?_
  rintro e w2 ⟨rfl, hb2⟩
  have HB2 := hide ((unhide HB1).trans (hb2.mono (unhide HB1).size))
  have HI2 := hide ((unhide HI1).below hb2)
  clear hb2 HB1 HI1
  have HNW := hide ((unhide HNI).below (unhide HB2))
  have hpl : ps.length ≤ 65535 := (HPS.out ps HP1.out).2
  have HPZ := Lib.hid (HPS.out ps HP1.out).1
  have HPE : Hid (ps.map bs = l.map enc) := HP1
  have HLN : Hid (l.length = ps.length) := Lib.hid (by have := congrArg List.length HPE.out; simpa using this.symm)
  obtain ⟨n, hn⟩ : ∃ n, n = ps.length := ⟨_, rfl⟩
  have HN := Lib.hid hn
  rw [← hn] at hcl hpl ⊢
  clear hn HPS HP1
  go_wp2_with fail
  go_loopw [7, 8] (fun sv iv wr => ∃ (j : Nat) (tj : List UInt8), sv = .string (toS tj) ∧ iv = .int .i64 j ∧ j ≤ n ∧ Hid (j % 2 = 0) ∧ Hid (tj = textsV ns 6 0 (l.take j)) ∧ Hid (Below w2.heap.size w2 wr)) (fun _ iv _ => n - (intOf iv).toNat)
  case atStart => exact ⟨0, [], rfl, rfl, by omega, rfl, Lib.hid (by rw [List.take_zero]; unfold textsV; rfl), Below.refl _ _⟩
  case round =>
    obtain ⟨j, tj, rfl, rfl, hj, hj2, hT, hB⟩ := hrel
    by_cases hjn : j < n
    · have hjm : j + 2 ≤ n := by have := hj2.out; have := HEV.out; have := HLN.out; have := HN.out; omega
      obtain ⟨u, hu⟩ : ∃ u, ps[j]? = some u := ⟨ps[j]'(by have := HN.out; omega), List.getElem?_eq_getElem _⟩
      obtain ⟨u2, hu2⟩ : ∃ u, ps[j + 1]? = some u := ⟨ps[j + 1]'(by have := HN.out; omega), List.getElem?_eq_getElem _⟩
      obtain ⟨x, hx⟩ : ∃ v, l[j]? = some v := ⟨l[j]'(by have := HN.out; have := HLN.out; omega), List.getElem?_eq_getElem _⟩
      obtain ⟨y, hy⟩ : ∃ v, l[j + 1]? = some v := ⟨l[j + 1]'(by have := HN.out; have := HLN.out; omega), List.getElem?_eq_getElem _⟩
      have hue : ∀ (i : Nat) (v : V) (u : ByteArray), ps[i]? = some u → l[i]? = some v → bs u = enc v := fun i v u h1 h2 => by
        have h3 : (ps.map bs)[i]? = (l.map enc)[i]? := by rw [HPE.out]
        rw [List.getElem?_map, List.getElem?_map, h1, h2] at h3
        exact Option.some.inj h3
      have HST := Lib.hid (textsV_two ns hj2.out hx hy)
      obtain ⟨J, hJ⟩ : ∃ J, J = textJ ns [32, 61, 62, 32] 0 [x, y] := ⟨_, rfl⟩
      rw [← hJ] at HST
      have HLE : Hid (tj.length + (if j = 0 then [] else [44, 32] : List UInt8).length + J.length ≤ 70368744169996) := Lib.hid (by
        have q1 := congrArg List.length HST.out
        have q2 := textsV_le ns 6 l (j + 2)
        have q3 := congrArg List.length hT.out
        have q4 := HLJ.out
        rw [List.length_append, List.length_append] at q1
        omega)
      have HTE : Hid (tj ++ (if j = 0 then [] else [44, 32]) ++ J = textsV ns 6 0 (l.take (j + 2))) := Lib.hid (by rw [HST.out, hT.out, List.append_assoc])
      obtain ⟨b5, o5, hA1, hb5, hc5⟩ := at1s (unhide HI2) (i := j) (u := .string u) (by rw [List.getElem?_map, hu]; rfl)
      subst hA1
      have HI2' : Hid (InC wr (some ⟨b5, o5 + j, none⟩) ([u, u2].map Value.string)) := hide (by
        refine .inr ⟨b5, o5 + j, rfl, Nat.lt_of_lt_of_le hb5 hB.out.size, fun q v hq => ?_⟩
        obtain ⟨b6, o6, hA6, hb6, hc6⟩ := at1s (unhide HI2) (i := j + 1) (u := .string u2) (by rw [List.getElem?_map, hu2]; rfl)
        injection hA6 with hA6
        injection hA6 with hA6 hA7
        subst hA6 hA7
        match q, hq with
        | 0, hq => have := Option.some.inj hq; subst this; exact (hB.out.cell (p := ⟨b5, o5 + j, none⟩) hb5).trans hc5
        | 1, hq => have := Option.some.inj hq; subst this; exact (hB.out.cell (p := ⟨b5, o5 + (j + 1), none⟩) hb5).trans hc6
        | q + 2, hq => exact absurd hq (by simp))
      have HC := Lib.hid (fun A c hI hN => HJ.out wr [x, y] [u, u2] A 2 c (fun v hv => by
        rcases List.mem_cons.1 hv with rfl | hv
        · exact HWF.out _ (List.mem_of_getElem? hx)
        · rw [List.mem_singleton.1 hv]; exact HWF.out _ (List.mem_of_getElem? hy)) (by
        show [bs u, bs u2] = [enc x, enc y]
        rw [hue j x u hu hx, hue (j + 1) y u2 hu2 hy]) (fun s hs => by
        rcases List.mem_cons.1 hs with rfl | hs
        · exact HPZ.out _ (List.mem_of_getElem? hu)
        · rw [List.mem_singleton.1 hs]; exact HPZ.out _ (List.mem_of_getElem? hu2)) rfl (by omega) hI hN (by rw [← hJ]; have := HLE.out; omega))
      rw [← hJ] at HC
      have HNX := hide ((unhide HNW).below hB.out)
      clear hu hu2 hx hy hue hJ hb5 hc5
      have hz1 : (toS tj).size = tj.length := rfl
      have hz2 : (toS J).size = J.length := rfl
      by_cases hj0 : j = 0
      · subst hj0
        rw [if_pos rfl, List.append_nil] at HTE
        have hz3 : tj.length + J.length ≤ 70368744170000 := by have := HLE.out; simp at this; omega
        rw [Nat.add_zero] at HI2'
        go_wp2_with fail
        refine (HC.out _ _ (unhide HI2') (unhide HNX)).mono ?_
        rintro e w3 ⟨rfl, hb3⟩
        have HB3 := hide (hB.out.trans (hb3.mono hB.out.size))
        clear hb3
        go_wp2_with fail
        rw [toS_app]
        go_roundw
        case rel => exact ⟨0 + 2, _, rfl, by go_num, by omega, Lib.hid (by omega), HTE.out, unhide HB3⟩
        case measure => simp [intOf]; omega
      · rw [if_neg hj0] at HTE HLE
        have pj : (0 : Int) < (j : Int) := by omega
        have hz3 : tj.length + 2 + J.length ≤ 70368744170000 := by have := HLE.out; simp at this; omega
        have hz4 : (toS tj ++ toS [44, 32]).size = tj.length + 2 := by rw [ByteArray.size_append]; rfl
        have hz5 : (toS tj ++ ⟨#[44, 32]⟩ : ByteArray).size = tj.length + 2 := hz4
        go_wp2_with fail
        refine (HC.out _ _ (unhide HI2') (unhide HNX)).mono ?_
        rintro e w3 ⟨rfl, hb3⟩
        have HB3 := hide (hB.out.trans (hb3.mono hB.out.size))
        have HJ2 : Hid ((j + 2) % 2 = 0) := Lib.hid (by have := hj2.out; omega)
        clear hb3
        go_wp2_with fail
        rw [show (⟨#[44, 32]⟩ : ByteArray) = toS [44, 32] from rfl, toS_app, toS_app]
        go_roundw
        case rel => exact ⟨j + 2, _, rfl, by go_num, by omega, HJ2.out, HTE.out, unhide HB3⟩
        case measure => simp [intOf]; omega
    · have HF : Hid (toS [40, 124] ++ toS tj ++ toS [124, 41] = toS (textV ns (.comp 6 l))) := Lib.hid (by
        rw [HE.out, ← toS_app, ← toS_app, hT.out, List.take_of_length_le (by have := HN.out; have := HLN.out; omega)])
      have hz1 : (toS tj).size ≤ 70368744169996 := by
        have q3 := congrArg List.length hT.out
        have q2 := textsV_le ns 6 l j
        have q4 := HLJ.out
        show tj.length ≤ _
        omega
      generalize toS tj = jt at *
      go_wp2_with fail
      go_ret
      exact ⟨by rw [← HF.out]; rfl, (unhide HB2).trans (hB.out.mono (unhide HB2).size)⟩

end Go.Proofs.YtaambeficfiacaaGreatDoor
