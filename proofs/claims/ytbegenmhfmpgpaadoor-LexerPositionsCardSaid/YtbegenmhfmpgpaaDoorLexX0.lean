/- What pieces makes: a short string. -/
import Derived.Test.YtbegenmhfmpgpaaDoorLexE
namespace Go.Proofs.YtbegenmhfmpgpaaDoor
open Go.RowKit M

/-- the pieces of which the statements' sources are made -/
def piecesL : List Bs := [[80], [97, 49, 39], [108, 101, 116], [119, 105, 116, 104, 105, 110], [83, 84, 79, 80], [32], [10], [9], [48], [55], [52, 50], [57, 50, 50, 51, 51, 55, 50, 48, 51, 54, 56, 53, 52, 55, 55, 53, 56, 48, 55], [57, 50, 50, 51, 51, 55, 50, 48, 51, 54, 56, 53, 52, 55, 55, 53, 56, 48, 56], [48, 55], [51, 120], [45, 45], [45], [123, 45], [45, 125], [123], [124], [126], [91], [93], [40], [41], [60], [62], [61], [33], [43], [47], [92], [95], [46], [58], [64], [70, 68], [84, 61], [127], [39]]
theorem piecesL_len : piecesL.length = 41 := by decide
theorem piecesL_le : ∀ k : Fin 41, (piecesL.getD k.val []).length ≤ 19 := by decide

/-- a short string -/
def ShortStr (w : World) (e : Ending) (w' : World) : Prop := ∃ t : ByteArray, e = .returned (.string t) ∧ t.size ≤ 950 ∧ Below w.heap.size w w'

/-- the bytes of a slice that came in -/
def InBytes (w : World) (A : Option Addr) (n : Nat) : Prop := n = 0 ∨ ∃ (b off : Nat), A = some ⟨b, off, none⟩ ∧ b < w.heap.size ∧ ∀ k, k < n → ∃ z : Int, 0 ≤ z ∧ z ≤ 255 ∧ w.cell? ⟨b, off + k, none⟩ = some (.int .u8 z)

set_option maxRecDepth 100000 in
set_option maxHeartbeats 1000000 in
theorem pieces_any (w : World) (A : Option Addr) (n c : Nat) (hA : InBytes w A n) (hn : n ≤ maxLen) :
    Calls Tryd.prog 17 #[.slice A n c] w (ShortStr w) := by
  unfold maxLen at hn
  have HA := Lib.hid hA
  have hst : ∀ k, k < 41 → (w.alloc (strBlock piecesL)).cell? ⟨w.heap.size, k, none⟩ = some (.string (S (piecesL.getD k []))) := fun k hk => str_cell (heap_alloc_new w _) k (by rw [piecesL_len]; exact hk)
  have HST := Lib.hid hst
  clear hA hst
  go_enter Tryd.func17, Tryd.ntmps17
  go_wp2
  generalize hw0 : w.alloc (.cells #[.string ⟨#[80]⟩, .string ⟨#[97, 49, 39]⟩, .string ⟨#[108, 101, 116]⟩, .string ⟨#[119, 105, 116, 104, 105, 110]⟩, .string ⟨#[83, 84, 79, 80]⟩, .string ⟨#[32]⟩, .string ⟨#[10]⟩, .string ⟨#[9]⟩, .string ⟨#[48]⟩, .string ⟨#[55]⟩, .string ⟨#[52, 50]⟩, .string ⟨#[57, 50, 50, 51, 51, 55, 50, 48, 51, 54, 56, 53, 52, 55, 55, 53, 56, 48, 55]⟩, .string ⟨#[57, 50, 50, 51, 51, 55, 50, 48, 51, 54, 56, 53, 52, 55, 55, 53, 56, 48, 56]⟩, .string ⟨#[48, 55]⟩, .string ⟨#[51, 120]⟩, .string ⟨#[45, 45]⟩, .string ⟨#[45]⟩, .string ⟨#[123, 45]⟩, .string ⟨#[45, 125]⟩, .string ⟨#[123]⟩, .string ⟨#[124]⟩, .string ⟨#[126]⟩, .string ⟨#[91]⟩, .string ⟨#[93]⟩, .string ⟨#[40]⟩, .string ⟨#[41]⟩, .string ⟨#[60]⟩, .string ⟨#[62]⟩, .string ⟨#[61]⟩, .string ⟨#[33]⟩, .string ⟨#[43]⟩, .string ⟨#[47]⟩, .string ⟨#[92]⟩, .string ⟨#[95]⟩, .string ⟨#[46]⟩, .string ⟨#[58]⟩, .string ⟨#[64]⟩, .string ⟨#[70, 68]⟩, .string ⟨#[84, 61]⟩, .string ⟨#[127]⟩, .string ⟨#[39]⟩] 9) = w0
  have HB0 : Hid (Below w.heap.size w w0) := by unfold Hid; rw [← hw0]; exact (Below.refl _ _).alloc (Nat.le_refl _) _
  have HS0 : Hid (∀ k, k < 41 → w0.cell? ⟨w.heap.size, k, none⟩ = some (.string (S (piecesL.getD k [])))) := by unfold Hid; rw [← hw0]; exact HST.out
  clear hw0
  go_loop [4, 5] (fun t4 t5 => ∃ (k : Nat) (t : ByteArray), k ≤ n ∧ k ≤ 50 ∧ t5 = .int .i64 k ∧ t4 = .string t ∧ t.size ≤ 19 * k) (fun _ t5 => n - (intOf t5).toNat)
  case atStart => exact ⟨0, ⟨#[]⟩, by omega, by omega, rfl, rfl, by decide⟩
  case round =>
    obtain ⟨k, t, hk, hk50, rfl, rfl, ht⟩ := hrel
    by_cases hlt : k < n
    · by_cases h50 : k < 50
      · rcases HA.out with h0 | ⟨b, off, rfl, hb, hcs⟩
        · omega
        obtain ⟨z, hz0, hz1, hc⟩ := hcs k hlt
        have hc2 : w0.cell? ⟨b, off + k, none⟩ = some (.int .u8 z) := (HB0.out.cell (p := ⟨b, off + k, none⟩) hb).trans hc
        obtain ⟨r, hr⟩ : ∃ r : Nat, z % 41 = (r : Int) := ⟨(z % 41).toNat, by omega⟩
        have hr41 : r < 41 := by omega
        have hp := piecesL_le ⟨r, hr41⟩
        simp only at hp
        have hs := HS0.out r hr41
        have hq : (S (piecesL.getD r [])).size ≤ 19 := hp
        generalize S (piecesL.getD r []) = q at hs hq
        clear hcs hp hc
        go_wp2
        go_round
        case rel => exact ⟨k + 1, t ++ q, by omega, by omega, by go_num, rfl, by rw [ByteArray.size_append]; omega⟩
        case measure => simp [intOf]; omega
      · go_wp2
        go_ret
        exact ⟨t, rfl, by omega, HB0.out⟩
    · go_wp2
      go_ret
      exact ⟨t, rfl, by omega, HB0.out⟩

theorem InBytes.below {w w' : World} {A : Option Addr} {n : Nat} (h : InBytes w A n) (hb : Below w.heap.size w w') : InBytes w' A n := by
  rcases h with h | ⟨b, off, rfl, hlt, hc⟩
  · exact .inl h
  · refine .inr ⟨b, off, rfl, Nat.lt_of_lt_of_le hlt hb.size, fun k hk => ?_⟩
    obtain ⟨z, h0, h1, h2⟩ := hc k hk
    exact ⟨z, h0, h1, (hb.cell (p := ⟨b, off + k, none⟩) hlt).trans h2⟩

end Go.Proofs.YtbegenmhfmpgpaaDoor
