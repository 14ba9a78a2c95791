/- offset: the byte offset of a position. Conditions: a source of at most 65536 bytes; the position is that of an offset. -/
import Derived.Test.YtbegenmhfmpgpaaDoorTokP
import Derived.Test.YtbegenmhfmpgpaaDoorLayK
namespace Go.Proofs.YtbegenmhfmpgpaaDoor
open Go.RowKit M

def PosB (w : World) (g : Nat) (p : Int × Int) : Prop := Blk w g 23 #[.int .i64 p.1, .int .i64 p.2]

set_option maxRecDepth 100000 in
set_option maxHeartbeats 3200000 in
theorem offset_any (s : ByteArray) (o : Nat) (ho : o ≤ s.size) (hm : s.size ≤ 65536) (x y : Int) (hp : posA (1, 1) (s.data.toList.take o) = (x, y)) (w : World) :
    Calls Tryd.prog 21 #[.string s, .agg #[.int .i64 x, .int .i64 y]] w fun e w' => e = .returned (.int .i64 o) ∧ Below w.heap.size w w' := by
  have HP := Lib.hid hp
  clear hp
  go_enter Tryd.func21, Tryd.ntmps21
  go_wp2_with fail
  go_loopw [6] (fun i wr => ∃ k : Nat, i = .int .i64 k ∧ k ≤ o ∧ Hid (PosB wr w.heap.size (x, y)) ∧ Hid (PosB wr (w.heap.size + 1) (posA (1, 1) (s.data.toList.take k))) ∧ Hid (Below w.heap.size w wr)) (fun i _ => o - (intOf i).toNat)
  case atStart =>
    refine ⟨0, rfl, by omega, ?_, ?_, ((Below.refl _ _).alloc (Nat.le_refl _) _).alloc (by simp) _⟩
    · exact (Blk.new w _ _).alloc _
    · have h := Blk.new (w.alloc (.cells #[.int .i64 x, .int .i64 y] 23)) 23 #[.int .i64 1, .int .i64 1]
      rw [show (w.alloc (.cells #[.int .i64 x, .int .i64 y] 23)).heap.size = w.heap.size + 1 by simp] at h
      exact h
  case round =>
    obtain ⟨k, rfl, hk, hD, hC, hB⟩ := hrel
    have c0 := hC.out.cell 0
    have c1 := hC.out.cell 1
    have d0 := hD.out.cell 0
    have d1 := hD.out.cell 1
    have f0 := hC.out.frozen 0
    have f1 := hC.out.frozen 1
    simp at c0 c1 d0 d1
    have hks : k ≤ s.size := by omega
    by_cases hko : k = o
    · subst hko
      rw [HP.out] at c0 c1
      simp only at c0 c1
      clear hD hC f0 f1
      go_wp2
      go_ret
      exact ⟨rfl, hB.out⟩
    · have hlt : k < s.size := by omega
      have hne := pos_ne s.data.toList k o (by omega) (by simpa using ho)
      rw [HP.out] at hne
      have hst := posA_take (1, 1) s k hlt
      have hb := posA_bound (s.data.toList.take k) (1, 1) (by decide) (by decide)
      have hl : (s.data.toList.take k).length ≤ k := List.length_take_le _ _
      obtain ⟨⟨a, b⟩, hab⟩ : ∃ p, posA (1, 1) (s.data.toList.take k) = p := ⟨_, rfl⟩
      rw [hab] at hne hst c0 c1 hb hC
      simp only at hne c0 c1 hb
      have ha0 : 0 ≤ a ∧ a ≤ 1000000 := by omega
      have hb0 : 0 ≤ b ∧ b ≤ 1000000 := by omega
      have HST := Lib.hid hst
      have HNE : Hid (a = x → b = y → False) := fun h1 h2 => hne (by rw [h1, h2])
      have hN1 : s[k].toNat = 10 → Hid (posA (1, 1) (s.data.toList.take (k + 1)) = (a + 1, 1)) := fun q => by
        unfold Hid; rw [hst]; unfold stepP; rw [if_pos q]
      have hN2 : s[k].toNat ≠ 10 → Hid (posA (1, 1) (s.data.toList.take (k + 1)) = (a, b + 1)) := fun q => by
        unfold Hid; rw [hst]; unfold stepP; rw [if_neg q]
      clear hst hb hab hne
      by_cases h10 : s[k].toNat = 10
      · have hNN := hN1 h10
        have g1 : ((s[k].toNat : Int) == 10) = true := beq_iff_eq.2 (by omega)
        have HC2 : Hid (∀ (wz : World), wz = (wr.setCell ⟨w.heap.size + 1, 0, none⟩ (.int .i64 (a + 1))).setCell ⟨w.heap.size + 1, 1, none⟩ (.int .i64 1) → PosB wz (w.heap.size + 1) (posA (1, 1) (s.data.toList.take (k + 1))) ∧ PosB wz w.heap.size (x, y) ∧ Below w.heap.size w wz) := by
          rintro _ rfl
          refine ⟨?_, ?_, (hB.out.setCell (by show _ ≤ w.heap.size + 1; omega) _).setCell (by show _ ≤ w.heap.size + 1; omega) _⟩
          · rw [hNN.out]
            exact (hC.out.set_ 0 _).set_ 1 _
          · exact (hD.out.far (by show w.heap.size ≠ w.heap.size + 1; omega) _).far (by show w.heap.size ≠ w.heap.size + 1; omega) _
        clear hN1 hN2 h10 hNN hC hD
        go_wp2
        all_goals first
          | exact (HNE.out (by assumption) (by assumption)).elim
          | (go_roundw
             case rel =>
               first
                 | exact ⟨k + 1, by go_num, by omega, (HC2.out _ rfl).2.1, (HC2.out _ rfl).1, (HC2.out _ rfl).2.2⟩
                 | (have e : a = x := by assumption
                    rw [← e]
                    rw [← e] at HC2
                    exact ⟨k + 1, by go_num, by omega, (HC2.out _ rfl).2.1, (HC2.out _ rfl).1, (HC2.out _ rfl).2.2⟩)
             case measure => simp [intOf]; omega)
      · have hNN := hN2 h10
        have g1 : ((s[k].toNat : Int) == 10) = false := beq_eq_false_iff_ne.2 (by omega)
        have HC2 : Hid (∀ (wz : World), wz = wr.setCell ⟨w.heap.size + 1, 1, none⟩ (.int .i64 (b + 1)) → PosB wz (w.heap.size + 1) (posA (1, 1) (s.data.toList.take (k + 1))) ∧ PosB wz w.heap.size (x, y) ∧ Below w.heap.size w wz) := by
          rintro _ rfl
          refine ⟨?_, ?_, hB.out.setCell (by show _ ≤ w.heap.size + 1; omega) _⟩
          · rw [hNN.out]
            exact hC.out.set_ 1 _
          · exact hD.out.far (by show w.heap.size ≠ w.heap.size + 1; omega) _
        clear hN1 hN2 h10 hNN hC hD
        go_wp2
        all_goals first
          | exact (HNE.out (by assumption) (by assumption)).elim
          | (go_roundw
             case rel =>
               first
                 | exact ⟨k + 1, by go_num, by omega, (HC2.out _ rfl).2.1, (HC2.out _ rfl).1, (HC2.out _ rfl).2.2⟩
                 | (have e : a = x := by assumption
                    rw [← e]
                    rw [← e] at HC2
                    exact ⟨k + 1, by go_num, by omega, (HC2.out _ rfl).2.1, (HC2.out _ rfl).1, (HC2.out _ rfl).2.2⟩)
             case measure => simp [intOf]; omega)

end Go.Proofs.YtbegenmhfmpgpaaDoor
