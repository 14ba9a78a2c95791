/- The statements' fixed example holds: awake returns true. Condition: strconv.ErrRange holds an interface value. -/
import Derived.Test.YtbegenmhfmpgpaaDoorLexY0
import Derived.KernelRfl
namespace Go.Proofs.YtbegenmhfmpgpaaDoor
open Go.RowKit M

theorem scan_one : scan [80, 32, 61, 32, 97, 45, 62, 83, 84, 79, 80, 32, 45, 45, 32, 120] =
    ([(⟨1, 0, [80], 0⟩, (1, 1)), (⟨4, 0, [61], 0⟩, (1, 3)), (⟨1, 0, [97], 0⟩, (1, 5)), (⟨4, 0, [45, 62], 0⟩, (1, 6)), (⟨3, 0, [83, 84, 79, 80], 0⟩, (1, 8))], (0, 0), 0) := by kernel_rfl
theorem scan_two : scan [48, 48, 55] = ([], (1, 1), 2) := by kernel_rfl

set_option maxHeartbeats 1000000 in
theorem awake_any (w : World) (hr : RangeVar w) :
    Calls Tryd.prog 9 #[] w fun e w' => e = .returned (.bool true) ∧ Below w.heap.size w w' := by
  have HR := Lib.hid hr
  clear hr
  have h1 := fun W hr => scan_any ⟨#[80, 32, 61, 32, 97, 45, 62, 83, 84, 79, 80, 32, 45, 45, 32, 120]⟩ (by decide) W hr
  have h2 := fun W hr => scan_any ⟨#[48, 48, 55]⟩ (by decide) W hr
  rw [show ((⟨#[80, 32, 61, 32, 97, 45, 62, 83, 84, 79, 80, 32, 45, 45, 32, 120]⟩ : ByteArray).data.toList) = [80, 32, 61, 32, 97, 45, 62, 83, 84, 79, 80, 32, 45, 45, 32, 120] from rfl, scan_one] at h1
  rw [show ((⟨#[48, 48, 55]⟩ : ByteArray).data.toList) = [48, 48, 55] from rfl, scan_two] at h2
  have H1 := Lib.hid h1
  have H2 := Lib.hid h2
  clear h1 h2
  go_enter Tryd.func9, Tryd.ntmps9
  go_wp2_with fail
  refine (H1.out _ HR.out).mono ?_
  rintro e w1 ⟨v1, rfl, ho1, hb1⟩
  obtain ⟨g, c, rfl, hg1, hg2, hc, hcells⟩ := owns_cell ho1 (by decide)
  have k0 : w1.cell? ⟨g, 15, none⟩ = some (.int .i64 4) := hcells 15 _ rfl
  have k1 : w1.cell? ⟨g, 16, none⟩ = some (.int .i64 0) := hcells 16 _ rfl
  have k2 : w1.cell? ⟨g, 17, none⟩ = some (.string ⟨#[45, 62]⟩) := hcells 17 _ rfl
  have k3 : w1.cell? ⟨g, 18, none⟩ = some (.int .i64 1) := hcells 18 _ rfl
  have k4 : w1.cell? ⟨g, 19, none⟩ = some (.int .i64 6) := hcells 19 _ rfl
  have HR1 : Hid (RangeVar w1) := HR.out.below hb1
  have HB1 := Lib.hid hb1
  have hs1 := hb1.size
  clear hcells ho1 hb1
  go_wp2_with fail
  refine (H2.out _ (HR1.out.alloc _)).mono ?_
  rintro e w2 ⟨v2, rfl, ho2, hb2⟩
  obtain ⟨hc2, hf2⟩ := bcell_alloc hb2
  have hz2 : w1.heap.size + 1 ≤ w2.heap.size := by have := hb2.size; simp at this; omega
  have HB2 := Lib.hid hb2
  clear hb2 ho2
  go_wp2
  go_ret
  exact ⟨rfl, ((HB1.out.alloc (by omega) _).trans (HB2.out.mono (by simp; omega))).alloc (by omega) _⟩

end Go.Proofs.YtbegenmhfmpgpaaDoor
