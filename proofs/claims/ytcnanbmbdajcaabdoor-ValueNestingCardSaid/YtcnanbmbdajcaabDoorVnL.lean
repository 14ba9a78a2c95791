/- ValueNesting returns true, whatever its byte is. No conditions. -/
import Derived.Test.YtcnanbmbdajcaabDoorVnR0
import Derived.Test.YtcnanbmbdajcaabDoorVnR1
import Derived.Test.YtcnanbmbdajcaabDoorVnR2
import Derived.Test.YtcnanbmbdajcaabDoorVnR3
import Derived.Test.YtcnanbmbdajcaabDoorVaC
namespace Go.Proofs.YtcnanbmbdajcaabDoor
open Go Go.RowKit
set_option maxRecDepth 100000

def encN : Nat → List UInt8
  | 0 => [1, 0, 0, 0, 0, 0, 0, 0, 1]
  | k + 1 => 4 :: 0 :: 1 :: encN k
def nestV (k : Nat) : ByteArray := ⟨(encN k).toArray⟩
/-- the value that is nested k times, or the empty string -/
def valN (k : Nat) : ByteArray := if k ≤ 31 then nestV k else ⟨#[]⟩
theorem encN_len (k : Nat) : (encN k).length = 9 + 3 * k := by
  induction k with
  | zero => rfl
  | succ k ih => simp [encN, ih]; omega
theorem nestV_size (k : Nat) : (nestV k).size = 9 + 3 * k := by
  show (encN k).toArray.size = _
  rw [List.size_toArray, encN_len]
theorem valN_size (k : Nat) : (valN k).size ≤ 102 := by
  unfold valN
  split
  · rw [nestV_size]; omega
  · exact Nat.zero_le _
theorem valN_step (k : Nat) : compB (fun _ => decide (k ≤ 30)) 4 [valN k] = valN (k + 1) := by
  by_cases h : k ≤ 30
  · have h1 : valN k = nestV k := by unfold valN; rw [if_pos (by omega)]
    have h2 : valN (k + 1) = nestV (k + 1) := by unfold valN; rw [if_pos (by omega)]
    rw [compB_good (by intro s _; simp [h]) (by have := valN_size k; simp [totB]; omega), h1, h2]
    show (⟨_⟩ : ByteArray) = ⟨_⟩
    congr 2
    simp [encL, nestV, encN]
  · have h2 : valN (k + 1) = ⟨#[]⟩ := by unfold valN; rw [if_neg (by omega)]
    rw [compB_bad (s := valN k) (by simp) (by simp [h]), h2]
theorem int_run : Ev.valOf (Ev.runC Tryd.prog 100000 .leaf 4 [.int .i64 1]) = some (.string ⟨#[1, 0, 0, 0, 0, 0, 0, 0, 1]⟩) := by kernel_rfl
theorem int_one (w : World) : Calls Tryd.prog 4 #[.int .i64 1] w fun e w' => e = .returned (.string (valN 0)) ∧ Below w.heap.size w w' :=
  Ev.calls_of_run (P := Tryd.prog) (by kernel_rfl) (args := [.int .i64 1]) rfl int_run w
theorem fit_none_run : Ev.valOf (Ev.runC Tryd.prog 100000 .leaf 14 [.string ⟨#[]⟩, .int .i64 31]) = some (.bool false) := by kernel_rfl
theorem fit_none (w : World) : Calls Tryd.prog 14 #[.string ⟨#[]⟩, .int .i64 31] w fun e w' => e = .returned (.bool false) ∧ Below w.heap.size w w' :=
  Ev.calls_of_run (P := Tryd.prog) (by kernel_rfl) (args := [.string ⟨#[]⟩, .int .i64 31]) rfl fit_none_run w
theorem ok_none_run : Ev.valOf (Ev.runC Tryd.prog 100000 .leaf 7 [.string ⟨#[]⟩]) = some (.bool false) := by kernel_rfl
theorem ok_none (w : World) : Calls Tryd.prog 7 #[.string ⟨#[]⟩] w fun e w' => e = .returned (.bool false) ∧ Below w.heap.size w w' :=
  Ev.calls_of_run (P := Tryd.prog) (by kernel_rfl) (args := [.string ⟨#[]⟩]) rfl ok_none_run w
theorem vawake_run : Ev.valOf (Ev.runC Tryd.prog 100000 .leaf 6 []) = some (.bool true) := by kernel_rfl
theorem vawake_any (w : World) : Calls Tryd.prog 6 #[] w fun e w' => e = .returned (.bool true) ∧ Below w.heap.size w w' :=
  Ev.calls_of_run (P := Tryd.prog) (by kernel_rfl) (args := []) rfl vawake_run w
theorem fit_valN (w : World) : ∀ k : Nat, k ≤ 100 → Calls Tryd.prog 14 #[.string (valN k), .int .i64 31] w fun e w' => e = .returned (.bool (decide (k ≤ 30))) ∧ Below w.heap.size w w'
  | 0, _ => fit_at0 w
  | 1, _ => fit_at1 w
  | 2, _ => fit_at2 w
  | 3, _ => fit_at3 w
  | 4, _ => fit_at4 w
  | 5, _ => fit_at5 w
  | 6, _ => fit_at6 w
  | 7, _ => fit_at7 w
  | 8, _ => fit_at8 w
  | 9, _ => fit_at9 w
  | 10, _ => fit_at10 w
  | 11, _ => fit_at11 w
  | 12, _ => fit_at12 w
  | 13, _ => fit_at13 w
  | 14, _ => fit_at14 w
  | 15, _ => fit_at15 w
  | 16, _ => fit_at16 w
  | 17, _ => fit_at17 w
  | 18, _ => fit_at18 w
  | 19, _ => fit_at19 w
  | 20, _ => fit_at20 w
  | 21, _ => fit_at21 w
  | 22, _ => fit_at22 w
  | 23, _ => fit_at23 w
  | 24, _ => fit_at24 w
  | 25, _ => fit_at25 w
  | 26, _ => fit_at26 w
  | 27, _ => fit_at27 w
  | 28, _ => fit_at28 w
  | 29, _ => fit_at29 w
  | 30, _ => fit_at30 w
  | 31, _ => fit_at31 w
  | k + 32, _ => by
    have h1 : valN (k + 32) = ⟨#[]⟩ := by unfold valN; rw [if_neg (by omega)]
    have h2 : decide (k + 32 ≤ 30) = false := decide_eq_false (by omega)
    rw [h1, h2]; exact fit_none w
theorem ok_valN (w : World) : ∀ k : Nat, k ≤ 100 → Calls Tryd.prog 7 #[.string (valN k)] w fun e w' => e = .returned (.bool (decide (k ≤ 31))) ∧ Below w.heap.size w w'
  | 0, _ => ok_at0 w
  | 1, _ => ok_at1 w
  | 2, _ => ok_at2 w
  | 3, _ => ok_at3 w
  | 4, _ => ok_at4 w
  | 5, _ => ok_at5 w
  | 6, _ => ok_at6 w
  | 7, _ => ok_at7 w
  | 8, _ => ok_at8 w
  | 9, _ => ok_at9 w
  | 10, _ => ok_at10 w
  | 11, _ => ok_at11 w
  | 12, _ => ok_at12 w
  | 13, _ => ok_at13 w
  | 14, _ => ok_at14 w
  | 15, _ => ok_at15 w
  | 16, _ => ok_at16 w
  | 17, _ => ok_at17 w
  | 18, _ => ok_at18 w
  | 19, _ => ok_at19 w
  | 20, _ => ok_at20 w
  | 21, _ => ok_at21 w
  | 22, _ => ok_at22 w
  | 23, _ => ok_at23 w
  | 24, _ => ok_at24 w
  | 25, _ => ok_at25 w
  | 26, _ => ok_at26 w
  | 27, _ => ok_at27 w
  | 28, _ => ok_at28 w
  | 29, _ => ok_at29 w
  | 30, _ => ok_at30 w
  | 31, _ => ok_at31 w
  | k + 32, _ => by
    have h1 : valN (k + 32) = ⟨#[]⟩ := by unfold valN; rw [if_neg (by omega)]
    have h2 : decide (k + 32 ≤ 31) = false := decide_eq_false (by omega)
    rw [h1, h2]; exact ok_none w

set_option maxHeartbeats 1600000 in
theorem seq_any (w : World) (A : Option Addr) (n c : Nat) (ps : List ByteArray) (hn : n = ps.length) (hn2 : n ≤ 1048576) (hA : InC w A (ps.map Value.string)) (F : ByteArray → Bool) (hs : ∀ s ∈ ps, s.size ≤ 281474976710656)
    (hF : ∀ s ∈ ps, ∀ W, Calls Tryd.prog 14 #[.string s, .int .i64 31] W fun e w' => e = .returned (.bool (F s)) ∧ Below W.heap.size W w') :
    Calls Tryd.prog 5 #[.slice A n c] w fun e w' => e = .returned (.string (compB F 4 ps)) ∧ Below w.heap.size w w' := by
  have C := hide (compound_any w 4 A n c ps hn hn2 hA F hs hF)
  clear hn hn2 hA hs hF
  generalize compB F 4 ps = r at *
  go_enter Tryd.func5, Tryd.ntmps5
  go_wp2_with fail
  refine (unhide C).mono ?_
  rintro e w1 ⟨rfl, hb⟩
  have HB := hide hb
  clear hb
  go_wp2_with fail
  go_ret
  exact ⟨rfl, unhide HB⟩
theorem valN_some {k : Nat} (h : k ≤ 31) : (valN k).toList.isEmpty = false := by
  have h1 : valN k = nestV k := by unfold valN; rw [if_pos h]
  have e : (nestV k).toList = (nestV k).data.toList := ByteArray.toList_eq _
  rw [h1, e]
  show (encN k).toArray.toList.isEmpty = false
  rw [List.toList_toArray]
  cases k <;> rfl

set_option maxHeartbeats 6400000 in
theorem valueNesting_any (n : Nat) (hn : n < 256) (w : World) :
    Calls Tryd.prog 3 #[.int .u8 (n : Int)] w fun e w' => e = .returned (.bool true) ∧ Below w.heap.size w w' := by
  go_enter Tryd.func3, Tryd.ntmps3
  go_wp2_with fail
  refine (int_one _).mono ?_
  rintro e w1 ⟨rfl, hb1⟩
  have HB1 := hide hb1
  clear hb1
  go_wp2_with fail
  go_loopw [3, 4] (fun v i wr => ∃ j : Nat, i = .int .i64 j ∧ v = .string (valN j) ∧ j ≤ n % 40 ∧ Hid (Below w.heap.size w wr)) (fun _ i _ => n % 40 - (intOf i).toNat)
  case atStart => exact ⟨0, rfl, rfl, by omega, unhide HB1⟩
  case round =>
    obtain ⟨j, rfl, rfl, hj, hB⟩ := hrel
    by_cases hlt : j < n % 40
    · have hbz := hB.out.size
      have HV := Lib.hid (valN_step j)
      have HF := Lib.hid (fun W => fit_valN W j (by omega))
      have HZ := Lib.hid (valN_size j)
      generalize valN j = s at *
      generalize hs2 : valN (j + 1) = s2 at *
      go_wp2_with fail
      refine (seq_any _ (some ⟨wr.heap.size, 0, none⟩) 1 1 [s] rfl (by decide) (new_in wr _ #[.string s]) (fun _ => decide (j ≤ 30)) (fun x hx => by simp at hx; subst hx; have := HZ.out; omega) (fun x hx W => by simp at hx; subst hx; exact HF.out W)).mono ?_
      rintro e w2 ⟨rfl, hb2⟩
      have HB2 := hide ((hB.out.alloc hbz _).trans (hb2.mono (by simp; omega)))
      rw [HV.out]
      clear hb2 HV HF HZ
      go_wp2_with fail
      go_roundw
      case rel => exact ⟨j + 1, by go_num, by rw [hs2], by omega, unhide HB2⟩
      case measure => simp [intOf]; omega
    · obtain rfl : j = n % 40 := by omega
      go_wp2_with fail
      refine (vawake_any _).mono ?_
      rintro e w2 ⟨rfl, hb2⟩
      have HB2 := hide (hB.out.trans (hb2.mono hB.out.size))
      clear hb2
      go_wp2_with fail
      refine (ok_valN _ (n % 40) (by omega)).mono ?_
      rintro e w3 ⟨rfl, hb3⟩
      have HB3 := hide ((unhide HB2).trans (hb3.mono (unhide HB2).size))
      clear hb3
      by_cases hd : n % 40 ≤ 31
      · have hne := valN_some hd
        have hdd : decide ((32 : Int) < (n : Int) % 40 + 1) = false := decide_eq_false (by omega)
        rw [decide_eq_true hd]
        generalize valN (n % 40) = s at *
        go_wp2_with fail
        all_goals
          go_ret
          exact ⟨rfl, unhide HB3⟩
      · have hne : valN (n % 40) = ⟨#[]⟩ := by unfold valN; rw [if_neg hd]
        rw [decide_eq_false hd, hne]
        go_wp2_with fail
        all_goals
          go_ret
          exact ⟨rfl, unhide HB3⟩

end Go.Proofs.YtcnanbmbdajcaabDoor
