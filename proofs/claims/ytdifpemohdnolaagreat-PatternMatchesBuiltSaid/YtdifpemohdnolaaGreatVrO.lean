/- The reference's Bool; a new block of bytes made a string. No conditions. -/
import Derived.Test.YtdifpemohdnolaaGreatVrJ
import Derived.Test.YtdifpemohdnolaaGreatVaC
namespace Go.Proofs.YtdifpemohdnolaaGreat
open Go.RowKit VM

def kindM (s : ByteArray) : Int := if valB 32 s = true then ((treeB s).kind.toNat : Int) else 0
set_option linter.unusedSimpArgs false in
set_option maxRecDepth 100000 in
set_option maxHeartbeats 1600000 in
theorem rkind_any (s : ByteArray) (hs : s.size ≤ 281474976710656) (w : World) :
    Calls Tryz.prog 62 #[.string s] w fun e w' => e = .returned (.int .i64 (kindM s)) ∧ Below w.heap.size w w' := by
  have HV := Lib.hid (fun w => rvalid_any s hs w)
  unfold kindM
  cases h1 : valB 32 s with
  | true =>
    rw [h1] at HV
    obtain ⟨a1, a2, a3⟩ := tree_ok h1
    obtain ⟨hs0, k0⟩ := enc_first (r := []) a1 (by rw [a2, List.append_nil])
    have e1 : s[0] = (treeB s).kind := by rw [bs_get s 0 hs0] at k0; exact Option.some.inj k0
    rw [if_pos rfl]
    generalize (treeB s).kind = k at *
    have wk : wrap64 (k.toNat : Int) = (k.toNat : Int) := IntWalk.wrap64_in _ (by have := k.toNat_lt; omega)
    clear a1 a2 h1 k0
    go_enter Tryz.func62, Tryz.ntmps62
    go_wp2_with fail
    refine (HV.out _).mono ?_
    rintro e w1 ⟨rfl, hb1⟩
    have HB1 := hide hb1
    clear hb1
    go_wp2_with fail
    go_ret
    exact ⟨ret_i wk, unhide HB1⟩
  | false =>
    rw [h1] at HV
    rw [if_neg (by simp)]
    clear h1
    go_enter Tryz.func62, Tryz.ntmps62
    go_wp2_with fail
    refine (HV.out _).mono ?_
    rintro e w1 ⟨rfl, hb1⟩
    have HB1 := hide hb1
    clear hb1
    go_wp2_with fail
    go_ret
    exact ⟨rfl, unhide HB1⟩

end Go.Proofs.YtdifpemohdnolaaGreat
namespace Go.Proofs.YtdifpemohdnolaaGreat
open Go.RowKit VM

def numT : V → Int
  | .int l => numL l
  | .bool c => (c.toNat : Int)
  | .name a b => (u16 a b : Int)
  | .comp _ _ => 0
def numM (s : ByteArray) : Int := if valB 32 s = true then numT (treeB s) else 0
set_option linter.unusedSimpArgs false in
set_option maxRecDepth 100000 in
set_option maxHeartbeats 3200000 in
theorem rNumber_any (s : ByteArray) (hs : s.size ≤ 281474976710656) (w : World) :
    Calls Tryz.prog 71 #[.string s] w fun e w' => e = .returned (.int .i64 (numM s)) ∧ Below w.heap.size w w' := by
  have HK := Lib.hid (fun w => rkind_any s hs w)
  unfold numM
  unfold kindM at HK
  cases h1 : valB 32 s with
  | false =>
    rw [h1, if_neg (by simp)] at HK
    rw [if_neg (by simp)]
    clear h1
    go_enter Tryz.func71, Tryz.ntmps71
    go_wp2_with fail
    refine (HK.out _).mono ?_
    rintro e w1 ⟨rfl, hb1⟩
    have HB1 := hide hb1
    clear hb1
    go_wp2_with fail
    go_ret
    exact ⟨rfl, unhide HB1⟩
  | true =>
    rw [h1, if_pos rfl] at HK
    rw [if_pos rfl]
    obtain ⟨a1, a2, a3⟩ := tree_ok h1
    generalize treeB s = x at *
    clear h1
    have zs := bs_size s
    rw [a2] at zs
    cases x with
    | int l =>
      have hl := wf_int a1
      have hs9 : 1 ≤ s.size := by rw [← zs]; show 1 ≤ (1 :: l).length; simp
      have hz1 : 8 ≤ (s.extract 1 s.size).size ∧ (s.extract 1 s.size).size ≤ 1048576 := by
        rw [← bs_size, bs_extract, a2]
        show 8 ≤ l.length ∧ l.length ≤ 1048576
        omega
      have HN := Lib.hid (fun w => rnumber_any (s.extract 1 s.size) hz1.1 hz1.2 w)
      have q1 : (bs (s.extract 1 s.size)).take 8 = l := by
        rw [bs_extract, a2]
        show l.take 8 = l
        exact List.take_of_length_le (by omega)
      rw [q1] at HN
      have HK1 : Hid (∀ w, Calls Tryz.prog 62 #[.string s] w fun e w' => e = .returned (.int .i64 1) ∧ Below w.heap.size w w') := Lib.hid HK.out
      clear HK a1 a2 zs q1 hz1 hl
      go_enter Tryz.func71, Tryz.ntmps71
      go_wp2_with fail
      refine (HK1.out _).mono ?_
      rintro e w1 ⟨rfl, hb1⟩
      have HB1 := hide hb1
      clear hb1
      go_wp2_with fail
      refine (HN.out _).mono ?_
      rintro e w2 ⟨rfl, rfl⟩
      go_wp2_with fail
      go_ret
      exact ⟨rfl, unhide HB1⟩
    | bool c =>
      have HK1 : Hid (∀ w, Calls Tryz.prog 62 #[.string s] w fun e w' => e = .returned (.int .i64 2) ∧ Below w.heap.size w w') := Lib.hid HK.out
      have hs2 : 1 < s.size := by rw [← zs]; show 1 < [2, c].length; simp
      have e1 : s[1] = c := by
        have := bs_get s 1 hs2
        rw [a2] at this
        exact (Option.some.inj this).symm
      have wk : wrap64 (c.toNat : Int) = (c.toNat : Int) := IntWalk.wrap64_in _ (by have := c.toNat_lt; omega)
      clear HK a1 a2 zs
      go_enter Tryz.func71, Tryz.ntmps71
      go_wp2_with fail
      refine (HK1.out _).mono ?_
      rintro e w1 ⟨rfl, hb1⟩
      have HB1 := hide hb1
      clear hb1
      go_wp2_with fail
      go_ret
      exact ⟨ret_i wk, unhide HB1⟩
    | name a b =>
      have HK1 : Hid (∀ w, Calls Tryz.prog 62 #[.string s] w fun e w' => e = .returned (.int .i64 10) ∧ Below w.heap.size w w') := Lib.hid HK.out
      have hs3 : 2 < s.size := by rw [← zs]; show 2 < [10, a, b].length; simp
      have hs2 : 1 < s.size := by omega
      have e1 : s[1] = a := by
        have := bs_get s 1 hs2
        rw [a2] at this
        exact (Option.some.inj this).symm
      have e2 : s[2] = b := by
        have := bs_get s 2 hs3
        rw [a2] at this
        exact (Option.some.inj this).symm
      have hor := or_i64 a.toNat b.toNat (by have := a.toNat_lt; omega) b.toNat_lt
      have w1 : wrap64 (a.toNat : Int) = (a.toNat : Int) := IntWalk.wrap64_in _ (by have := a.toNat_lt; omega)
      have w2 : wrap64 (b.toNat : Int) = (b.toNat : Int) := IntWalk.wrap64_in _ (by have := b.toNat_lt; omega)
      have w3 : wrap64 ((a.toNat : Int) * 256) = (a.toNat : Int) * 256 := IntWalk.wrap64_in _ (by have := a.toNat_lt; omega)
      clear HK a1 a2 zs
      go_enter Tryz.func71, Tryz.ntmps71
      go_wp2_with fail
      refine (HK1.out _).mono ?_
      rintro e w4 ⟨rfl, hb1⟩
      have HB1 := hide hb1
      clear hb1
      go_wp2_with fail
      go_quiet (fail)
      go_wp2_with fail
      go_ret
      refine ⟨ret_i ?_, below_drewN (unhide HB1) _⟩
      show _ = ((a.toNat * 256 + b.toNat : Nat) : Int)
      rw [Int.natCast_add, Int.natCast_mul]; rfl
    | comp k l =>
      have HK1 : Hid (∀ w, Calls Tryz.prog 62 #[.string s] w fun e w' => e = .returned (.int .i64 (k.toNat : Int)) ∧ Below w.heap.size w w') := Lib.hid HK.out
      obtain ⟨k1, k2, k3⟩ := kind_comp a1
      have n1 : ((k.toNat : Int) == 1) = false := u8_ne k1
      have n2 : ((k.toNat : Int) == 2) = false := u8_ne k2
      have n3 : ((k.toNat : Int) == 10) = false := u8_ne k3
      clear HK a1 a2 zs k1 k2 k3
      go_enter Tryz.func71, Tryz.ntmps71
      go_wp2_with fail
      refine (HK1.out _).mono ?_
      rintro e w1 ⟨rfl, hb1⟩
      have HB1 := hide hb1
      clear hb1
      go_wp2_with fail
      go_ret
      exact ⟨rfl, unhide HB1⟩

end Go.Proofs.YtdifpemohdnolaaGreat
namespace Go.Proofs.YtdifpemohdnolaaGreat
open Go.RowKit VM

theorem all_step {f : ByteArray → Bool} {ps : List ByteArray} {j : Nat} {u : ByteArray} (h : ps[j]? = some u) : (ps.drop j).all f = (f u && (ps.drop (j + 1)).all f) := by
  have hi : j < ps.length := (List.getElem?_eq_some_iff.1 h).1
  rw [List.drop_eq_getElem_cons hi]
  rw [List.getElem?_eq_getElem hi] at h
  rw [Option.some.inj h, List.all_cons]
set_option linter.unusedSimpArgs false in
set_option maxRecDepth 100000 in
set_option maxHeartbeats 3200000 in
theorem rall_any (ps : List ByteArray) (A : Option Addr) (n c : Nat) (w : World) (hn : n = ps.length) (hn1 : n ≤ 4611686018427387904) (hs : ∀ s ∈ ps, s.size ≤ 281474976710656) (hr : InC w A (ps.map Value.string)) :
    Calls Tryz.prog 46 #[.slice A n c] w fun e w' => e = .returned (.bool (ps.all (valB 32))) ∧ Below w.heap.size w w' := by
  have HS := Lib.hid hs
  have HR := hide hr
  have HN := Lib.hid hn
  clear hs hr hn
  go_enter Tryz.func46, Tryz.ntmps46
  go_wp2_with fail
  go_loopw [3] (fun iv wr => ∃ j : Nat, iv = .int .i64 j ∧ j ≤ n ∧ Hid (InC wr A (ps.map Value.string)) ∧ Hid (ps.all (valB 32) = (ps.drop j).all (valB 32)) ∧ Hid (Below w.heap.size w wr)) (fun iv _ => n - (intOf iv).toNat)
  case atStart => exact ⟨0, rfl, by omega, unhide HR, rfl, Below.refl _ _⟩
  case round =>
    obtain ⟨j, rfl, hj, hR, hA, hB⟩ := hrel
    by_cases hil : j < n
    · obtain ⟨u, hu⟩ : ∃ u, ps[j]? = some u := ⟨ps[j]'(by have := HN.out; omega), List.getElem?_eq_getElem _⟩
      have HC := Lib.hid (fun w => rvalid_any u (HS.out u (List.mem_of_getElem? hu)) w)
      have HST : Hid (ps.all (valB 32) = (valB 32 u && (ps.drop (j + 1)).all (valB 32))) := Lib.hid (by rw [hA.out]; exact all_step hu)
      obtain ⟨b5, o5, hA1, hb5, hc5⟩ := at1s hR.out (i := j) (u := .string u) (by rw [List.getElem?_map, hu]; rfl)
      subst hA1
      clear hu hA
      go_wp2_with fail
      refine (HC.out _).mono ?_
      rintro e w3 ⟨rfl, hb⟩
      have HB9 := hide (hB.out.trans (hb.mono hB.out.size))
      have HR8 := hide (hR.out.below hb)
      clear hb HC hB hR hc5 hb5
      cases hz : valB 32 u with
      | true =>
        have HA2 : Hid (ps.all (valB 32) = (ps.drop (j + 1)).all (valB 32)) := Lib.hid (by rw [HST.out, hz, Bool.true_and])
        clear HST hz
        go_wp2_with fail
        go_roundw
        case rel => exact ⟨j + 1, by go_num, by omega, unhide HR8, HA2.out, unhide HB9⟩
        case measure => simp [intOf]; omega
      | false =>
        have HA2 : Hid (ps.all (valB 32) = false) := Lib.hid (by rw [HST.out, hz, Bool.false_and])
        clear HST hz
        go_wp2_with fail
        go_ret
        exact ⟨by rw [HA2.out]; rfl, unhide HB9⟩
    · have HA2 : Hid (ps.all (valB 32) = true) := Lib.hid (by
        rw [hA.out, List.drop_eq_nil_of_le (by have := HN.out; omega)]; rfl)
      go_wp2_with fail
      go_ret
      exact ⟨by rw [HA2.out]; rfl, hB.out⟩

end Go.Proofs.YtdifpemohdnolaaGreat
namespace Go.Proofs.YtdifpemohdnolaaGreat
open Go.RowKit VM

def twoL (n : Nat) : List UInt8 := [UInt8.ofNat (n / 256), UInt8.ofNat n]
set_option linter.unusedSimpArgs false in
set_option maxRecDepth 100000 in
set_option maxHeartbeats 3200000 in
theorem rtwo_any (n : Nat) (hn : n < 65536) (w : World) :
    Calls Tryz.prog 52 #[.int .i64 (n : Int)] w fun e w' => e = .returned (.string ⟨(twoL n).toArray⟩) ∧ Below w.heap.size w w' := by
  have e1 : ((UInt8.ofNat (n / 256)).toNat : Int) = (n : Int) / 256 := by rw [UInt8.toNat_ofNat']; omega
  have e2 : ((UInt8.ofNat n).toNat : Int) = (n : Int) % 256 := by rw [UInt8.toNat_ofNat']; omega
  have hcv := run_convert_bytes_back (P := Tryz.prog) (w.alloc (.cells #[.int .u8 ((n : Int) / 256), .int .u8 ((n : Int) % 256)] 5)) 81 9 5 ⟨w.heap.size, 0, none⟩ 2 (twoL n) Tryz.underlying81 Tryz.underlying5 Tryz.underlying9 (fun q hq => by
    rw [add_at, Nat.zero_add, (Blk.new w _ _).cell]
    match q, hq with
    | 0, _ => rw [← e1]; rfl
    | 1, _ => rw [← e2]; rfl
    | q + 2, hq => exact absurd hq (by show ¬ q + 2 < 2; omega))
  have hl : (twoL n).length = 2 := rfl
  rw [hl] at hcv
  clear e1 e2 hl
  go_enter Tryz.func52, Tryz.ntmps52
  go_wp2_with fail
  go_ret
  exact ⟨rfl, (Below.refl _ _).alloc (Nat.le_refl _) _⟩

end Go.Proofs.YtdifpemohdnolaaGreat
namespace Go.Proofs.YtdifpemohdnolaaGreat
open Go.RowKit VM

theorem new_bytes (w : World) (cs : Array Value) (l : List UInt8) (h : cs.toList = bCells l) (q : Nat) (hq : q < l.length) : (w.alloc (.cells cs 5)).cell? ((⟨w.heap.size, 0, none⟩ : Addr).add q) = some (.int .u8 (l[q].toNat : Int)) := by
  rw [add_at, Nat.zero_add, (Blk.new w _ _).cell]
  have : cs.toList[q]? = some (.int .u8 (l[q].toNat : Int)) := by
    rw [h]
    unfold bCells
    rw [List.getElem?_map, List.getElem?_eq_getElem hq]; rfl
  simpa using this
theorem conv_str (w : World) (cs : Array Value) (l : List UInt8) (h : cs.toList = bCells l) (n c : Nat) (hn : l.length = n) : Sem.run Tryz.prog (convert 81 9 (.slice (some ⟨w.heap.size, 0, none⟩) n c)) (w.alloc (.cells cs 5)) = .ok (.string ⟨l.toArray⟩) (w.alloc (.cells cs 5)) := by
  subst hn
  exact run_convert_bytes_back (P := Tryz.prog) (w.alloc (.cells cs 5)) 81 9 5 ⟨w.heap.size, 0, none⟩ c l Tryz.underlying81 Tryz.underlying5 Tryz.underlying9 (new_bytes w cs l h)
theorem conv_val (w : World) (cs : Array Value) (l : List UInt8) (h : cs.toList = bCells l) (n c : Nat) (hn : l.length = n) : Sem.run Tryz.prog (convert 81 23 (.slice (some ⟨w.heap.size, 0, none⟩) n c)) (w.alloc (.cells cs 5)) = .ok (.string ⟨l.toArray⟩) (w.alloc (.cells cs 5)) := by
  subst hn
  exact run_convert_bytes_back (P := Tryz.prog) (w.alloc (.cells cs 5)) 81 23 5 ⟨w.heap.size, 0, none⟩ c l Tryz.underlying81 Tryz.underlying5 Tryz.underlying23 (new_bytes w cs l h)
set_option maxRecDepth 100000 in
set_option maxHeartbeats 3200000 in
theorem rbool_any (b : Bool) (w : World) :
    Calls Tryz.prog 27 #[.bool b] w fun e w' => e = .returned (.string ⟨#[2, if b = true then 1 else 0]⟩) ∧ Below w.heap.size w w' := by
  have h1 := conv_val w #[.int .u8 2, .int .u8 1] [2, 1] rfl 2 2 rfl
  have h2 := conv_val w #[.int .u8 2, .int .u8 0] [2, 0] rfl 2 2 rfl
  cases b
  all_goals
    go_enter Tryz.func27, Tryz.ntmps27
    go_wp2_with fail
    go_ret
    exact ⟨rfl, (Below.refl _ _).alloc (Nat.le_refl _) _⟩

end Go.Proofs.YtdifpemohdnolaaGreat
