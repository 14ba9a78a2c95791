/- The program's sizeOf: how many nodes the type has that begins a list. Condition: at most 512 nodes, each with at most nine children. -/
import Derived.Test.YtcnanbmbdajcaaaDoorTyX0
namespace Go.Proofs.YtcnanbmbdajcaaaDoor
open Go.RowKit M

theorem szM_step {b : List TN} {s m z : Nat} (h : szM (m + 1) (b.drop s) = some (z - s)) (hz : s ≤ z) : ∃ t, b[s]? = some t ∧ szM (m + t.2.2.toNat) (b.drop (s + 1)) = some (z - (s + 1)) ∧ s + 1 ≤ z := by
  cases hb : b.drop s with
  | nil => rw [hb] at h; simp [szM] at h
  | cons t r =>
    rw [hb] at h
    simp only [szM, Option.map_eq_some_iff] at h
    obtain ⟨y, hy, e⟩ := h
    have hl := congrArg List.length hb
    simp at hl
    have hs : s < b.length := by omega
    rw [List.drop_eq_getElem_cons hs] at hb
    injection hb with h1 h2
    refine ⟨t, by rw [List.getElem?_eq_getElem hs, h1], ?_, by omega⟩
    rw [h2, hy]; congr 1; omega

set_option maxRecDepth 100000 in
set_option maxHeartbeats 1600000 in
theorem size_any (w : World) (A : Option Addr) (n c z : Nat) (b : List TN) (hn : n = b.length) (hl : n ≤ 512) (hk : ∀ t ∈ b, 0 ≤ t.2.2 ∧ t.2.2 ≤ 9) (hz : szM 1 b = some z) (hA : InC w A (b.flatMap ndCells)) :
    Calls Tryd.prog 36 #[.slice A n c] w fun e w' => e = .returned (.int .i64 (z : Int)) ∧ w' = w := by
  have HA := hide hA
  have HN := Lib.hid hn
  have HK := Lib.hid hk
  have HZ : Hid (szM 1 (b.drop 0) = some (z - 0)) := hz
  clear hA hn hk hz
  go_enter Tryd.func36, Tryd.ntmps36
  go_wp2_with fail
  go_loopw [3, 4] (fun sv mv wr => ∃ s m : Nat, sv = .int .i64 s ∧ mv = .int .i64 m ∧ Hid (szM m (b.drop s) = some (z - s)) ∧ s ≤ z ∧ m ≤ 1 + 9 * s ∧ s ≤ n ∧ wr = w) (fun sv _ _ => n - (intOf sv).toNat)
  case atStart => exact ⟨0, 1, rfl, rfl, HZ.out, by omega, by omega, by omega, rfl⟩
  case round =>
    obtain ⟨s, m, rfl, rfl, hS, hsz, hm, hsn, rfl⟩ := hrel
    cases m with
    | zero =>
      have he : z = s := by have := hS.out; simp [szM] at this; omega
      subst he
      go_wp2_with fail
      go_ret
      exact ⟨rfl, rfl⟩
    | succ m =>
      obtain ⟨t, ht, h1, h2⟩ := szM_step hS.out hsz
      have hs2 : s < n := by rw [HN.out]; exact (List.getElem?_eq_some_iff.1 ht).1
      obtain ⟨hk0, hk9⟩ := HK.out t (List.mem_of_getElem? ht)
      obtain ⟨bb, off, rfl, hb, hcell⟩ := (unhide HA).elem nd_len ht (by decide)
      have x2 := hcell 2 _ rfl
      have H1 := Lib.hid h1
      obtain ⟨k, num, kids⟩ := t
      simp only at hk0 hk9 x2
      obtain ⟨kn, rfl⟩ := Int.eq_ofNat_of_zero_le hk0
      clear hcell ht h1
      go_wp2_with fail
      go_roundw
      case rel => exact ⟨s + 1, m + kn, by go_num, by go_num, by have h := H1.out; simp only [Int.toNat_natCast] at h; exact h, h2, by omega, by omega, trivial⟩
      case measure => simp [intOf]; omega

end Go.Proofs.YtcnanbmbdajcaaaDoor
