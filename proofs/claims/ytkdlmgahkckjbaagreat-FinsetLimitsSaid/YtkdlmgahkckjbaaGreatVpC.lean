/- value's Seq, Set, headed, Dot, Name, Kind; help's Has. Conditions: at most 1048575 strings of at most 2^48 bytes. -/
import Derived.Test.YtkdlmgahkckjbaaGreatVpS
import Derived.Test.YtkdlmgahkckjbaaGreatVgM
namespace Go.Proofs.YtkdlmgahkckjbaaGreat
open Go.RowKit VM

def mkP (k : UInt8) (ps : List ByteArray) : ByteArray := compB (valB 31) k ps
theorem pcomp_any (k : UInt8) (ps : List ByteArray) (A : Option Addr) (n c : Nat) (w : World) (hn : n = ps.length) (hn1 : n ≤ 1048576) (hs : ∀ s ∈ ps, s.size ≤ 281474976710656) (hr : InC w A (ps.map Value.string)) :
    Calls Tryz.prog 38 #[.int .u8 (k.toNat : Int), .slice A n c] w fun e w' => e = .returned (.string (mkP k ps)) ∧ Below w.heap.size w w' :=
  compound_any w k A n c ps hn hn1 hr (valB 31) hs (fun s h W => fits_any 31 (by decide) s (hs s h) W)
set_option maxRecDepth 100000 in
set_option maxHeartbeats 1600000 in
theorem pseq_any (ps : List ByteArray) (A : Option Addr) (n c : Nat) (w : World) (hn : n = ps.length) (hn1 : n ≤ 1048576) (hs : ∀ s ∈ ps, s.size ≤ 281474976710656) (hr : InC w A (ps.map Value.string)) :
    Calls Tryz.prog 46 #[.slice A n c] w fun e w' => e = .returned (.string (mkP 4 ps)) ∧ Below w.heap.size w w' := by
  have HC := hide (pcomp_any 4 ps A n c w hn hn1 hs hr)
  generalize mkP 4 ps = m at *
  clear hn hs hr
  go_enter Tryz.func46, Tryz.ntmps46
  go_wp2_with fail
  refine (unhide HC).mono ?_
  rintro e w3 ⟨rfl, hb3⟩
  have HB3 := hide hb3
  clear hb3
  go_wp2_with fail
  go_ret
  exact ⟨rfl, unhide HB3⟩
set_option maxRecDepth 100000 in
set_option maxHeartbeats 1600000 in
theorem pset_any (ps : List ByteArray) (A : Option Addr) (n c : Nat) (w : World) (hn : n = ps.length) (hn1 : n ≤ 1048576) (hs : ∀ s ∈ ps, s.size ≤ 281474976710656) (hr : InC w A (ps.map Value.string)) :
    Calls Tryz.prog 19 #[.slice A n c] w fun e w' => e = .returned (.string (mkP 5 (sortM ps))) ∧ Below w.heap.size w w' := by
  have HS := hide (psort_any ps A n c w hn hn1 hs hr)
  have hl := sortM_len ps
  have HC := Lib.hid (fun w B cb L (hL : L = (sortM ps).length) hr => pcomp_any 5 (sortM ps) B L cb w hL (by omega) (fun s h => hs s (sortM_mem.1 h)) hr)
  generalize mkP 5 (sortM ps) = m at *
  generalize sortM ps = so at *
  clear hn hs hr hl
  go_enter Tryz.func19, Tryz.ntmps19
  go_wp2_with fail
  refine (unhide HS).mono ?_
  rintro e w4 ⟨B, cb, L, rfl, hL, hO, hb4⟩
  have HB4 := hide hb4
  have HI4 := hide (InC.own hO)
  have HL := Lib.hid hL
  clear hb4 hO hL
  go_wp2_with fail
  refine (HC.out _ _ _ _ HL.out (unhide HI4)).mono ?_
  rintro e w5 ⟨rfl, hb5⟩
  have HB5 := hide ((unhide HB4).trans (hb5.mono (unhide HB4).size))
  clear hb5
  go_wp2_with fail
  go_ret
  exact ⟨rfl, unhide HB5⟩
def hasB (x : ByteArray) (ps : List ByteArray) : Bool := ps.any fun s => decide (s = x)
theorem hasB_iff {x : ByteArray} {ps : List ByteArray} : hasB x ps = true ↔ x ∈ ps := by
  unfold hasB
  rw [List.any_eq_true]
  constructor
  · rintro ⟨s, hs, h⟩
    rw [← of_decide_eq_true h]; exact hs
  · intro h
    exact ⟨x, h, decide_eq_true rfl⟩
/-! pure -/
theorem mkP_good {d : Nat} (hd : d ≤ 31) {k : UInt8} {ps : List ByteArray} (h : ∀ s ∈ ps, valB d s = true) (hz : 3 + totB ps ≤ 131072) : mkP k ps = encB k ps :=
  compB_good (fun s hs => valB_le hd (h s hs)) hz
theorem encB_inj {d : Nat} (hd : d ≤ 31) {k : UInt8} (hk : isComp k = true) {a b : List ByteArray} (ha : ∀ s ∈ a, valB d s = true) (hb : ∀ s ∈ b, valB d s = true) (pa : parted (ord d) k (a.map treeB) = true) (pb : parted (ord d) k (b.map treeB) = true) (za : 3 + totB a ≤ 131072) (zb : 3 + totB b ≤ 131072)
    (h : encB k a = encB k b) : a = b := by
  have h1 := (enc_comp_val hd ha hk pa za).2
  have h2 := (enc_comp_val hd hb hk pb zb).2
  rw [h, h2] at h1
  injection h1 with _ h3
  have e1 := (trees_bs (by omega) ha).1
  have e2 := (trees_bs (by omega) hb).1
  rw [← h3, ← e2] at e1
  have := congrArg (List.map toB) e1
  rwa [map_toB, map_toB] at this
theorem parted_set {d : Nat} (hd : d ≤ 32) {ps : List ByteArray} (h : ∀ s ∈ ps, valB d s = true) (hA : Asc ps) : parted (ord d) 5 (ps.map treeB) = true := by
  unfold parted countOK ascOK
  rw [headL_ne (by decide) (by decide) (by decide)]
  simp [asc_tree (d := d) (by omega) h hA]

end Go.Proofs.YtkdlmgahkckjbaaGreat
