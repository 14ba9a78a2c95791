/- The program's bindings: it returns. Condition: at most 512 keys, each within 64 bits, each type at most 512 nodes. -/
import Derived.Test.YtcnanbmbdajcaaaDoorTyX4
namespace Go.Proofs.YtcnanbmbdajcaaaDoor
open Go.RowKit M

theorem sl_zinfo : (Tryd.prog.info? 22).map (·.zero) = some (some (.slice none 0 0)) := by kernel_rfl
theorem zero_sl (w : World) : (zeroValue 22).run Tryd.prog w = .ok (.slice none 0 0) w := by
  have h := sl_zinfo
  cases hi : Tryd.prog.info? 22 with
  | none => rw [hi] at h; cases h
  | some i => rw [hi] at h; simp only [Option.map_some, Option.some.injEq] at h; exact run_zero_of hi h w
theorem bind_info2 : (Tryd.prog.info? 43).map (fun i => (i.zero, i.size, i.bytes)) = some (some (.agg #[.int .i64 0, .slice none 0 0]), 2, 32) := by kernel_rfl
/-- a value is a slice of at most 512 nodes -/
def Sl (w : World) (v : Value) (ts : List TN) : Prop := ∃ A c, v = .slice A ts.length c ∧ ts.length ≤ 512 ∧ InC w A (ts.flatMap ndCells)
theorem Sl.below {w w' : World} {v : Value} {ts : List TN} (h : Sl w v ts) (hb : Below w.heap.size w w') : Sl w' v ts := by
  obtain ⟨A, c, h1, h2, h3⟩ := h; exact ⟨A, c, h1, h2, h3.below hb⟩
/-- the values of a map are such slices -/
def Vals (w : World) (M : Int → Option Value) : Prop := ∀ k v, M k = some v → ∃ ts, Sl w v ts
theorem Vals.below {w w' : World} {M : Int → Option Value} (h : Vals w M) (hb : Below w.heap.size w w') : Vals w' M := fun k v e => by
  obtain ⟨ts, h1⟩ := h k v e; exact ⟨ts, h1.below hb⟩
theorem Vals.at_ {w : World} {M : Int → Option Value} (h : Vals w M) (k : Int) : ∃ ts, Sl w ((M k).getD (.slice none 0 0)) ts := by
  cases hm : M k with
  | none => exact ⟨[], none, 0, rfl, by simp, InC.nil _ _⟩
  | some v => exact h k v hm
theorem SMap.look2 {w : World} {g n : Nat} {M : Int → Option Value} (h : SMap w g n M) (k : Int) :
    (Instr.lookup 68 (.map (some g)) (.int .i64 k) false).run Tryd.prog w = .ok ((M k).getD (.slice none 0 0)) w := by
  have := h.look (P := Tryd.prog) (t := 68) Tryd.underlying68 Tryd.underlying3 (zero_sl w) k false
  rw [this]
  cases M k <;> rfl

theorem own_smap_ne {w : World} {b : Nat} {e : TypeId} {z n g m : Nat} {v : Value} {xs : List Value} {M : Int → Option Value} (h : w.ownsRow b e z v n xs) (hm : SMap w g m M) : (some g : Option Nat) ≠ v.ownBlock := by
  intro q
  obtain ⟨ys, c, hm, _⟩ := hm
  rcases h.2 with ⟨rfl, _⟩ | ⟨g', cap, cur, rfl, _, hh, _⟩
  · simp [Value.ownBlock] at q
  · have hq : g = g' := by simpa [Value.ownBlock] using q
    subst hq
    rw [hm] at hh
    cases hh

set_option maxRecDepth 100000 in
set_option maxHeartbeats 6400000 in
theorem bindings_any (w : World) (g n : Nat) (M : Int → Option Value) (hn : n ≤ 512) (hM : SMap w g n M) (hV : Vals w M) :
    Calls Tryd.prog 37 #[.map (some g)] w fun e w' => (∃ v, e = .returned v) ∧ Below w.heap.size w w' := by
  have HM := hide hM
  have HV := hide hV
  have hgl := hM.lt
  obtain ⟨i0, hi0, hiz0, hiz1, hiz2⟩ := info_parts bind_info2
  clear hM hV
  go_enter Tryd.func37, Tryd.ntmps37
  go_wp2_with fail
  refine (keys_any (some g) _).mono ?_
  rintro e w1 ⟨rfl, rfl⟩
  go_wp2_with fail
  refine (sortedKeys_any g n w.heap.size M _ ((unhide HM).alloc _) hn (by simp) ((Blk.new w 68 #[.map (some g)]).cell 0)).mono ?_
  rintro e w2 ⟨v2, ss, rfl, hsl, hO2, hb2⟩
  have hal : Below w.heap.size w (w.alloc (.cells #[.map (some g)] 68)) := (Below.refl _ _).alloc (Nat.le_refl _) _
  have HB2 := hide (hal.trans (hb2.mono (by simp)))
  have HM2 := hide ((unhide HM).below (unhide HB2) hgl)
  have HV2 := hide ((unhide HV).below (unhide HB2))
  obtain ⟨A2, c2, rfl⟩ := owns_form hO2
  have HO2 := hide (owns_base (b' := w.heap.size) hO2 (by simp))
  clear hO2 hb2 hal
  go_wp2_with fail
  go_loopw [3, 10] (fun v i wr => ∃ (j : Nat) (xs : List Value), i = .int .i64 j ∧ j ≤ ss.length ∧ Hid (wr.ownsRow w.heap.size 43 2 v j xs) ∧ Hid (wr.ownsRow w.heap.size 3 1 (.slice A2 ss.length c2) ss.length (ss.map (Value.int .i64))) ∧ Hid (SMap wr g n M) ∧ Hid (Vals wr M) ∧ Hid (Below w.heap.size w wr)) (fun _ i _ => ss.length - (intOf i).toNat)
  case atStart => exact ⟨0, [], rfl, by omega, World.ownsRow_nil _ _ _ _, unhide HO2, unhide HM2, unhide HV2, unhide HB2⟩
  case round =>
    obtain ⟨j, xs, rfl, hj, hR, hS, hM, hV, hB⟩ := hrel
    obtain ⟨A6, c6, rfl⟩ := owns_form hR.out
    by_cases hjl : j < ss.length
    · have hLq : ss[j]? = some ss[j] := List.getElem?_eq_getElem hjl
      generalize ss[j] = u at hLq
      obtain ⟨b5, o5, rfl, hb5, hc5⟩ := (InC.own hS.out).at1' (i := j) (u := .int .i64 u) (by rw [List.getElem?_map, hLq]; rfl)
      have hlk := hM.out.look2 u
      obtain ⟨ts, A7, c7, hv7, hl7, hI7⟩ := hV.out.at_ u
      rw [hv7] at hlk
      have HI7 := hide hI7
      have hbz := hB.out.size
      clear hLq hv7 hI7
      go_wp2_with fail
      refine (clone_any _ A7 ts.length c7 ts rfl (by omega) (unhide HI7)).mono ?_
      rintro e w8 ⟨v8, rfl, hO8, hb8⟩
      obtain ⟨A8, c8, rfl⟩ := owns_form hO8
      have HR8 := hide (owns_below hR.out hb8)
      have HS8 := hide (owns_below hS.out hb8)
      have HM8 := hide (hM.out.below hb8 hM.out.lt)
      have HV8 := hide (hV.out.below hb8)
      have HB8 := hide (hB.out.trans (hb8.mono hbz))
      have hz8 := (unhide HB8).size
      clear hO8 hb8 hlk HI7
      go_wp2_with (at_builtin; refine wpList_app _ rfl _ _ 38 rfl w.heap.size 43 i0 _ 2 32 Tryd.underlying38 hi0 hiz0 hiz1 hiz2 rfl (by decide) _ j xs rfl ((unhide HR8).alloc _) _ 1 1 [.int .i64 u, .slice A8 ts.length c8] rfl rfl (new_in _ _ #[.int .i64 u, .slice A8 ts.length c8]) (by intro x hx; simp at hx; rcases hx with rfl | rfl <;> rfl) (by unfold maxLen; omega) (by omega) (by simp; omega) ?_; intro v9 w9 hown9 hgrow9 _)
      have hba := (Below.refl w8.heap.size w8).alloc (Nat.le_refl _) (.cells #[.int .i64 u, .slice A8 ts.length c8] 43)
      have HB9 := hide (below_app ((unhide HB8).alloc hz8 _) ((unhide HR8).alloc _) hgrow9)
      have HS9 := hide (owns_other ((unhide HS8).alloc _) hgrow9 (fun k hk e => own_own_ne (unhide HS8) (unhide HR8) (by decide) k hk e))
      have HM9 := hide (((unhide HM8).alloc _).kept hgrow9 (own_smap_ne (unhide HR8) (unhide HM8)))
      have HV9 : Hid (Vals w9 M) := hide ((unhide HV).below (unhide HB9))
      have HR9 := hide hown9
      clear hown9 hgrow9 hba
      go_roundw
      case rel => exact ⟨j + 1, _, by go_num, by omega, unhide HR9, unhide HS9, unhide HM9, unhide HV9, unhide HB9⟩
      case measure => simp [intOf]; omega
    · go_wp2_with fail
      go_ret
      exact ⟨⟨_, rfl⟩, hB.out⟩

end Go.Proofs.YtcnanbmbdajcaaaDoor
