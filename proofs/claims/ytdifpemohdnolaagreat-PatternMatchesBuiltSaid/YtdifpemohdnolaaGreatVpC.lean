/- value's Seq, Set, headed, Dot, Name, Kind; help's Has. Conditions: at most 1048575 strings of at most 2^48 bytes. -/
import Derived.Test.YtdifpemohdnolaaGreatVpS
import Derived.Test.YtdifpemohdnolaaGreatVgM
namespace Go.Proofs.YtdifpemohdnolaaGreat
open Go.RowKit VM

def mkP (k : UInt8) (ps : List ByteArray) : ByteArray := compB (valB 31) k ps
theorem pcomp_any (k : UInt8) (ps : List ByteArray) (A : Option Addr) (n c : Nat) (w : World) (hn : n = ps.length) (hn1 : n ≤ 1048576) (hs : ∀ s ∈ ps, s.size ≤ 281474976710656) (hr : InC w A (ps.map Value.string)) :
    Calls Tryz.prog 86 #[.int .u8 (k.toNat : Int), .slice A n c] w fun e w' => e = .returned (.string (mkP k ps)) ∧ Below w.heap.size w w' :=
  compound_any w k A n c ps hn hn1 hr (valB 31) hs (fun s h W => fits_any 31 (by decide) s (hs s h) W)
set_option maxRecDepth 100000 in
set_option maxHeartbeats 1600000 in
theorem pseq_any (ps : List ByteArray) (A : Option Addr) (n c : Nat) (w : World) (hn : n = ps.length) (hn1 : n ≤ 1048576) (hs : ∀ s ∈ ps, s.size ≤ 281474976710656) (hr : InC w A (ps.map Value.string)) :
    Calls Tryz.prog 76 #[.slice A n c] w fun e w' => e = .returned (.string (mkP 4 ps)) ∧ Below w.heap.size w w' := by
  have HC := hide (pcomp_any 4 ps A n c w hn hn1 hs hr)
  generalize mkP 4 ps = m at *
  clear hn hs hr
  go_enter Tryz.func76, Tryz.ntmps76
  go_wp2_with fail
  refine (unhide HC).mono ?_
  rintro e w3 ⟨rfl, hb3⟩
  have HB3 := hide hb3
  clear hb3
  go_wp2_with fail
  go_ret
  exact ⟨rfl, unhide HB3⟩
set_option maxRecDepth 100000 in
set_option maxHeartbeats 1600000 in
theorem pset_any (ps : List ByteArray) (A : Option Addr) (n c : Nat) (w : World) (hn : n = ps.length) (hn1 : n ≤ 1048576) (hs : ∀ s ∈ ps, s.size ≤ 281474976710656) (hr : InC w A (ps.map Value.string)) :
    Calls Tryz.prog 77 #[.slice A n c] w fun e w' => e = .returned (.string (mkP 5 (sortM ps))) ∧ Below w.heap.size w w' := by
  have HS := hide (psort_any ps A n c w hn hn1 hs hr)
  have hl := sortM_len ps
  have HC := Lib.hid (fun w B cb L (hL : L = (sortM ps).length) hr => pcomp_any 5 (sortM ps) B L cb w hL (by omega) (fun s h => hs s (sortM_mem.1 h)) hr)
  generalize mkP 5 (sortM ps) = m at *
  generalize sortM ps = so at *
  clear hn hs hr hl
  go_enter Tryz.func77, Tryz.ntmps77
  go_wp2_with fail
  refine (unhide HS).mono ?_
  rintro e w4 ⟨B, cb, L, rfl, hL, hO, hb4⟩
  have HB4 := hide hb4
  have HI4 := hide (InC.own hO)
  have HL := Lib.hid hL
  clear hb4 hO hL
  go_wp2_with fail
  refine (HC.out _ _ _ _ HL.out (unhide HI4)).mono ?_
  rintro e w5 ⟨rfl, hb5⟩
  have HB5 := hide ((unhide HB4).trans (hb5.mono (unhide HB4).size))
  clear hb5
  go_wp2_with fail
  go_ret
  exact ⟨rfl, unhide HB5⟩
set_option linter.unusedSimpArgs false in
set_option maxRecDepth 100000 in
set_option maxHeartbeats 1600000 in
theorem headed_any (s : ByteArray) (ps : List ByteArray) (A : Option Addr) (n c : Nat) (w : World) (hn : n = ps.length) (hn1 : n ≤ 1048575) (hr : InC w A (ps.map Value.string)) :
    Calls Tryz.prog 88 #[.string s, .slice A n c] w fun e w' => ∃ B cb, e = .returned (.slice B (1 + n) cb) ∧ InC w' B ((s :: ps).map Value.string) ∧ Below w.heap.size w w' := by
  have HR := hide hr
  have HLN : Hid ((ps.map Value.string).length = n * 1) := Lib.hid (by rw [List.length_map]; omega)
  obtain ⟨i0, hi0, hiz0, hiz1, hiz2⟩ := info_parts val_info
  have HB4 := hide ((Below.refl w.heap.size w).alloc (Nat.le_refl _) (.cells #[.string s] 23))
  have HR4 := hide ((unhide HR).alloc (.cells #[.string s] 23))
  have HO4 := hide (lit_row w s)
  clear hn hr
  go_enter Tryz.func88, Tryz.ntmps88
  go_wp2_with (at_builtin; refine wpList_app _ rfl _ _ 24 rfl w.heap.size 23 i0 _ 1 16 Tryz.underlying24 hi0 hiz0 hiz1 hiz2 rfl (by decide) _ 1 [.string s] rfl (unhide HO4) A n c (ps.map Value.string) rfl HLN.out (unhide HR4) (str_one ps) (by unfold maxLen; omega) (by omega) (unhide HB4).size ?_; intro v5 w5 hown5 hgrow5 _)
  have HB5 := hide (below_app (unhide HB4) (unhide HO4) hgrow5)
  obtain ⟨A5, c5, rfl⟩ := owns_form hown5
  have HI5 : Hid (InC w5 A5 ((s :: ps).map Value.string)) := hide (InC.own hown5)
  clear hown5 hgrow5
  go_wp2_with fail
  go_ret
  exact ⟨A5, c5, rfl, unhide HI5, unhide HB5⟩
set_option linter.unusedSimpArgs false in
set_option maxRecDepth 100000 in
set_option maxHeartbeats 1600000 in
theorem pname_any (n : Nat) (hn : n < 65536) (w : World) : Calls Tryz.prog 89 #[.int .i64 (n : Int)] w fun e w' => e = .returned (.string (nameB n)) ∧ Below w.heap.size w w' := by
  have e1 : ((UInt8.ofNat (n / 256)).toNat : Int) = (n : Int) / 256 := by rw [UInt8.toNat_ofNat']; omega
  have e2 : ((UInt8.ofNat n).toNat : Int) = (n : Int) % 256 := by rw [UInt8.toNat_ofNat']; omega
  have hcv := conv_val w #[.int .u8 10, .int .u8 ((n : Int) / 256), .int .u8 ((n : Int) % 256)] (10 :: twoL n) (by unfold bCells twoL; simp only [List.map_cons, List.map_nil, e1, e2]; rfl) 3 3 rfl
  have hc2 : (n : Int) / 256 % 256 = (n : Int) / 256 := by omega
  have hlt : (n : Int) ≤ 65535 := by omega
  clear e1 e2 hn
  go_enter Tryz.func89, Tryz.ntmps89
  go_wp2_with fail
  go_ret
  exact ⟨rfl, (Below.refl _ _).alloc (Nat.le_refl _) _⟩
set_option linter.unusedSimpArgs false in
set_option maxRecDepth 100000 in
set_option maxHeartbeats 3200000 in
theorem pdot_any (z : Nat) (hz : z < 65536) (ps : List ByteArray) (A : Option Addr) (n c : Nat) (w : World) (hn : n = ps.length) (hn1 : n ≤ 8) (hs : ∀ s ∈ ps, s.size ≤ 281474976710656) (hr : InC w A (ps.map Value.string)) :
    Calls Tryz.prog 78 #[.int .i64 (z : Int), .slice A n c] w fun e w' => e = .returned (.string (mkP 7 (nameB z :: ps))) ∧ Below w.heap.size w w' := by
  have HNM := Lib.hid (fun w => pname_any z hz w)
  have HH := Lib.hid (fun w hr => headed_any (nameB z) ps A n c w hn (by omega) hr)
  have HC := Lib.hid (fun w B cb hr => pcomp_any 7 (nameB z :: ps) B (1 + n) cb w (by rw [List.length_cons]; omega) (by omega) (fun s h => by
    rcases List.mem_cons.1 h with rfl | h
    · rw [nameB_size]; omega
    · exact hs s h) hr)
  have HR := hide hr
  generalize mkP 7 (nameB z :: ps) = m at *
  generalize nameB z = s0 at *
  clear hn hs hr
  go_enter Tryz.func78, Tryz.ntmps78
  go_wp2_with fail
  refine (HNM.out _).mono ?_
  rintro e w3 ⟨rfl, hb3⟩
  have HB3 := hide hb3
  have HR3 := hide ((unhide HR).below hb3)
  clear hb3
  go_wp2_with fail
  refine (HH.out _ (unhide HR3)).mono ?_
  rintro e w4 ⟨B, cb, rfl, hI4, hb4⟩
  have HB4 := hide ((unhide HB3).trans (hb4.mono (unhide HB3).size))
  have HI4 := hide hI4
  clear hI4 hb4
  go_wp2_with fail
  refine (HC.out _ _ _ (unhide HI4)).mono ?_
  rintro e w5 ⟨rfl, hb5⟩
  have HB5 := hide ((unhide HB4).trans (hb5.mono (unhide HB4).size))
  clear hb5
  go_wp2_with fail
  go_ret
  exact ⟨rfl, unhide HB5⟩
def hasB (x : ByteArray) (ps : List ByteArray) : Bool := ps.any fun s => decide (s = x)
theorem hasB_iff {x : ByteArray} {ps : List ByteArray} : hasB x ps = true ↔ x ∈ ps := by
  unfold hasB
  rw [List.any_eq_true]
  constructor
  · rintro ⟨s, hs, h⟩
    rw [← of_decide_eq_true h]; exact hs
  · intro h
    exact ⟨x, h, decide_eq_true rfl⟩
/-! pure -/
theorem mkP_good {d : Nat} (hd : d ≤ 31) {k : UInt8} {ps : List ByteArray} (h : ∀ s ∈ ps, valB d s = true) (hz : 3 + totB ps ≤ 131072) : mkP k ps = encB k ps :=
  compB_good (fun s hs => valB_le hd (h s hs)) hz
theorem encB_inj {d : Nat} (hd : d ≤ 31) {k : UInt8} (hk : isComp k = true) {a b : List ByteArray} (ha : ∀ s ∈ a, valB d s = true) (hb : ∀ s ∈ b, valB d s = true) (pa : parted (ord d) k (a.map treeB) = true) (pb : parted (ord d) k (b.map treeB) = true) (za : 3 + totB a ≤ 131072) (zb : 3 + totB b ≤ 131072)
    (h : encB k a = encB k b) : a = b := by
  have h1 := (enc_comp_val hd ha hk pa za).2
  have h2 := (enc_comp_val hd hb hk pb zb).2
  rw [h, h2] at h1
  injection h1 with _ h3
  have e1 := (trees_bs (by omega) ha).1
  have e2 := (trees_bs (by omega) hb).1
  rw [← h3, ← e2] at e1
  have := congrArg (List.map toB) e1
  rwa [map_toB, map_toB] at this
theorem parted_set {d : Nat} (hd : d ≤ 32) {ps : List ByteArray} (h : ∀ s ∈ ps, valB d s = true) (hA : Asc ps) : parted (ord d) 5 (ps.map treeB) = true := by
  unfold parted countOK ascOK
  rw [headL_ne (by decide) (by decide) (by decide)]
  simp [asc_tree (d := d) (by omega) h hA]

end Go.Proofs.YtdifpemohdnolaaGreat
