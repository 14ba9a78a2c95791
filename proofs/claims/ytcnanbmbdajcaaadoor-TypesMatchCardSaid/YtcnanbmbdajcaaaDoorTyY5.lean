/- The program's bindings, with what they are. Condition: at most 512 keys, each within 64 bits, each type at most 512 nodes. -/
import Derived.Test.YtcnanbmbdajcaaaDoorTyY0
import Derived.Test.YtcnanbmbdajcaaaDoorTyY4
namespace Go.Proofs.YtcnanbmbdajcaaaDoor
open Go.RowKit M

theorem row_le2 {w : World} {b : Nat} {e : TypeId} {z n c : Nat} {A : Option Addr} {xs : List Value} (h : w.ownsRow b e z (.slice A n c) n xs) : n ≤ c := by
  rcases h.2 with ⟨q, hz⟩ | ⟨g', cap, cur, q, _, _, hc, _⟩
  · rw [hz]; exact Nat.zero_le _
  · injection q with q1 q2 q3
    rw [q3]; exact hc
/-- each binding's type is a row of the call's own -/
def BRows (w : World) (base : Nat) (bs : List BS) : Prop := ∀ b ∈ bs, w.ownsRow base 33 3 (tsV b.2) b.2.2.2.length (b.2.2.2.flatMap ndCells) ∧ b.2.2.2.length ≤ 1024
theorem BRows.nil (w : World) (base : Nat) : BRows w base [] := fun b hb => by simp at hb
theorem BRows.alloc {w : World} {base : Nat} {bs : List BS} (h : BRows w base bs) (o : Obj) : BRows (w.alloc o) base bs := fun b hb => ⟨(h b hb).1.alloc o, (h b hb).2⟩
theorem BRows.drewN {w : World} {base : Nat} {bs : List BS} (h : BRows w base bs) (m : Nat) : BRows (w.drewN m) base bs := h
theorem BRows.below {w w' : World} {base : Nat} {bs : List BS} (h : BRows w base bs) (hb : Below w.heap.size w w') : BRows w' base bs := fun b q => ⟨owns_below (h b q).1 hb, (h b q).2⟩
theorem BRows.row {w w' : World} {base : Nat} {bs : List BS} (h : BRows w base bs) {base' z n : Nat} {v : Value} {xs : List Value} (ho : w.ownsRow base' 43 z v n xs) (hg : w.grownBy w' v.ownBlock) : BRows w' base bs :=
  fun b hb => ⟨owns_other (h b hb).1 hg (fun k hk e => own_own_ne (h b hb).1 ho (by decide) k hk e), (h b hb).2⟩
theorem BRows.snoc {w : World} {base : Nat} {bs : List BS} (h : BRows w base bs) {b : BS} (h1 : w.ownsRow base 33 3 (tsV b.2) b.2.2.2.length (b.2.2.2.flatMap ndCells)) (h2 : b.2.2.2.length ≤ 1024) : BRows w base (bs ++ [b]) := fun x hx => by
  rcases List.mem_append.1 hx with hx | hx
  · exact h x hx
  · simp at hx; subst hx; exact ⟨h1, h2⟩
theorem BRows.inB {w : World} {base : Nat} {bs : List BS} (h : BRows w base bs) {A : Option Addr} (hA : InC w A (bs.flatMap bdCells)) : InB w A bs :=
  ⟨hA, fun b hb => by
    obtain ⟨h1, h2⟩ := h b hb
    obtain ⟨k, A, c, ts⟩ := b
    exact ⟨InC.own h1, by unfold maxLen; omega, row_le2 h1⟩⟩
/-- what a call that returns bindings leaves: they are the list s -/
def BsPost (s : List Bd) (w : World) (e : Ending) (w' : World) : Prop :=
  ∃ (A : Option Addr) (c : Nat) (bs : List BS), e = .returned (.slice A bs.length c) ∧ w'.ownsRow w.heap.size 43 2 (.slice A bs.length c) bs.length (bs.flatMap bdCells) ∧ BRows w' w.heap.size bs ∧ bs.map mb = s ∧ Below w.heap.size w w'
theorem bd_cells (u : Int) (A : Option Addr) (n c : Nat) (ts : List TN) (hn : n = ts.length) : ([(u, A, c, ts)] : List BS).flatMap bdCells = [.int .i64 u, .slice A n c] := by
  subst hn; rfl

set_option maxRecDepth 100000 in
set_option maxHeartbeats 6400000 in
theorem bindings2_any (w : World) (g n : Nat) (M : Int → Option Value) (e0 : Int → Option (List TN)) (hn : n ≤ 512) (hM : SMap w g n M) (hV : EnvR w M e0) :
    Calls Tryd.prog 37 #[.map (some g)] w fun e w' => ∃ s, BsPost s w e w' ∧ Rep s e0 ∧ s.length ≤ n := by
  have HM := hide hM
  have HV := hide hV
  have hgl := hM.lt
  obtain ⟨i0, hi0, hiz0, hiz1, hiz2⟩ := info_parts bind_info2
  clear hM hV
  go_enter Tryd.func37, Tryd.ntmps37
  go_wp2_with fail
  refine (keys_any (some g) _).mono ?_
  rintro e w1 ⟨rfl, rfl⟩
  go_wp2_with fail
  refine (sortedKeys2_any g n w.heap.size M _ ((unhide HM).alloc _) hn (by simp) ((Blk.new w 68 #[.map (some g)]).cell 0)).mono ?_
  rintro e w2 ⟨v2, ss, rfl, hsl, hO2, hb2, hasc, hmem⟩
  have hal : Below w.heap.size w (w.alloc (.cells #[.map (some g)] 68)) := (Below.refl _ _).alloc (Nat.le_refl _) _
  have HB2 := hide (hal.trans (hb2.mono (by simp)))
  have HM2 := hide ((unhide HM).below (unhide HB2) hgl)
  have HV2 := hide ((unhide HV).below (unhide HB2))
  have HS : Hid (Rep (ss.map fun k => (k, (e0 k).getD [])) e0) := Lib.hid (rep_keys hasc fun k => by
    rw [hmem k]
    rcases (unhide HV) k with ⟨a, b⟩ | ⟨v, ts, a, b, _⟩
    · rw [a, b]; simp
    · rw [a, b]; simp)
  have HK : Hid (∀ k ∈ ss, (e0 k).isSome = true) := Lib.hid fun k hk => by
    have := (hmem k).1 hk
    rcases (unhide HV) k with ⟨a, b⟩ | ⟨v, ts, a, b, _⟩
    · rw [a] at this; cases this
    · rw [b]; rfl
  obtain ⟨A2, c2, rfl⟩ := owns_form hO2
  have HO2 := hide (owns_base (b' := w.heap.size) hO2 (by simp))
  clear hO2 hb2 hal hasc hmem
  go_wp2_with fail
  go_loopw [3, 10] (fun v i wr => ∃ (j : Nat) (bs : List BS), i = .int .i64 j ∧ j ≤ ss.length ∧ bs.length = j ∧ Hid (wr.ownsRow w.heap.size 43 2 v bs.length (bs.flatMap bdCells)) ∧ Hid (BRows wr w.heap.size bs) ∧ Hid (bs.map mb = (ss.take j).map fun k => (k, (e0 k).getD [])) ∧ Hid (wr.ownsRow w.heap.size 3 1 (.slice A2 ss.length c2) ss.length (ss.map (Value.int .i64))) ∧ Hid (SMap wr g n M) ∧ Hid (EnvR wr M e0) ∧ Hid (Below w.heap.size w wr)) (fun _ i _ => ss.length - (intOf i).toNat)
  case atStart => exact ⟨0, [], rfl, by omega, rfl, World.ownsRow_nil _ _ _ _, BRows.nil _ _, rfl, unhide HO2, unhide HM2, unhide HV2, unhide HB2⟩
  case round =>
    obtain ⟨j, bs, rfl, hj, hbj, hR, hY, hQ, hS, hM, hV, hB⟩ := hrel
    obtain ⟨A6, c6, rfl⟩ := owns_form hR.out
    have HBJ := Lib.hid hbj
    have hbj1 : bs.length ≤ j := by omega
    have hbj2 : j ≤ bs.length := by omega
    clear hbj
    by_cases hjl : j < ss.length
    · have hLq : ss[j]? = some ss[j] := List.getElem?_eq_getElem hjl
      have hmk := HK.out ss[j] (List.getElem_mem hjl)
      generalize ss[j] = u at hLq hmk
      obtain ⟨b5, o5, rfl, hb5, hc5⟩ := (InC.own hS.out).at1' (i := j) (u := .int .i64 u) (by rw [List.getElem?_map, hLq]; rfl)
      have hlk := hM.out.look2 u
      obtain ⟨v7, ts, hv7, he7, A7, c7, rfl, hl7, hI7⟩ : ∃ v ts, M u = some v ∧ e0 u = some ts ∧ Sl wr v ts := by
        rcases hV.out u with ⟨_, b⟩ | ⟨v, ts, a, b, c⟩
        · rw [b] at hmk; cases hmk
        · exact ⟨v, ts, a, b, c⟩
      rw [hv7, Option.getD_some] at hlk
      have HI7 := hide hI7
      have HQ1 : Hid (bs.map mb ++ [(u, ts)] = (ss.take (j + 1)).map fun k => (k, (e0 k).getD [])) := Lib.hid (by
        rw [hQ.out, List.take_add_one, hLq, List.map_append]
        simp [he7])
      have hbz := hB.out.size
      clear hLq hv7 hI7 hQ he7 hmk
      go_wp2_with fail
      refine (clone_any _ A7 ts.length c7 ts rfl (by omega) (unhide HI7)).mono ?_
      rintro e w8 ⟨v8, rfl, hO8, hb8⟩
      obtain ⟨A8, c8, rfl⟩ := owns_form hO8
      have HO8 := hide (owns_base (b' := w.heap.size) hO8 hbz)
      have HR8 := hide (owns_below hR.out hb8)
      have HY8 := hide (hY.out.below hb8)
      have HS8 := hide (owns_below hS.out hb8)
      have HM8 := hide (hM.out.below hb8 hM.out.lt)
      have HV8 := hide (hV.out.below hb8)
      have HB8 := hide (hB.out.trans (hb8.mono hbz))
      have hz8 := (unhide HB8).size
      clear hO8 hb8 hlk HI7
      go_wp2_with (at_builtin; refine wpList_app _ rfl _ _ 38 rfl w.heap.size 43 i0 _ 2 32 Tryd.underlying38 hi0 hiz0 hiz1 hiz2 rfl (by decide) _ bs.length (bs.flatMap bdCells) rfl ((unhide HR8).alloc _) _ 1 1 [.int .i64 u, .slice A8 ts.length c8] rfl rfl (new_in _ _ #[.int .i64 u, .slice A8 ts.length c8]) (by intro x hx; simp at hx; rcases hx with rfl | rfl <;> rfl) (by unfold maxLen; omega) (by omega) (by simp; omega) ?_; intro v9 w9 hown9 hgrow9 _)
      have HB9 := hide (below_app ((unhide HB8).alloc hz8 _) ((unhide HR8).alloc _) hgrow9)
      have HS9 := hide (owns_other ((unhide HS8).alloc _) hgrow9 (fun k hk e => own_own_ne (unhide HS8) (unhide HR8) (by decide) k hk e))
      have HM9 := hide (((unhide HM8).alloc _).kept hgrow9 (own_smap_ne (unhide HR8) (unhide HM8)))
      have HV9 : Hid (EnvR w9 M e0) := hide ((unhide HV).below (unhide HB9))
      have HY9 : Hid (BRows w9 w.heap.size (bs ++ [(u, A8, c8, ts)])) := hide (((((unhide HY8).snoc (b := (u, A8, c8, ts)) (unhide HO8) (show ts.length ≤ 1024 by omega)).alloc _).row ((unhide HR8).alloc _) hgrow9))
      have HR9 : Hid (w9.ownsRow w.heap.size 43 2 v9 (bs ++ [(u, A8, c8, ts)]).length ((bs ++ [(u, A8, c8, ts)]).flatMap bdCells)) := hide (by
        rw [List.flatMap_append, bd_cells u A8 ts.length c8 ts rfl, List.length_append]
        exact hown9)
      have HQ9 : Hid ((bs ++ [(u, A8, c8, ts)]).map mb = (ss.take (j + 1)).map fun k => (k, (e0 k).getD [])) := Lib.hid (by rw [List.map_append]; exact HQ1.out)
      have HL9 : Hid ((bs ++ [(u, A8, c8, ts)]).length = j + 1) := Lib.hid (by rw [List.length_append, HBJ.out]; rfl)
      clear hown9 hgrow9
      go_roundw
      case rel => exact ⟨j + 1, bs ++ [(u, A8, c8, ts)], by go_num, by omega, HL9.out, unhide HR9, unhide HY9, HQ9.out, unhide HS9, unhide HM9, unhide HV9, unhide HB9⟩
      case measure => simp [intOf]; omega
    · have HQ9 : Hid (bs.map mb = ss.map fun k => (k, (e0 k).getD [])) := Lib.hid (by rw [hQ.out, List.take_of_length_le (by omega)])
      clear hQ
      go_wp2_with fail
      go_ret
      exact ⟨_, ⟨A6, c6, bs, rfl, hR.out, hY.out, HQ9.out, hB.out⟩, HS.out, by rw [List.length_map]; exact hsl⟩

end Go.Proofs.YtcnanbmbdajcaaaDoor
