/- The laws' own: a heap that a call has made; awake. No conditions. -/
import Derived.Test.YtcdapnhcgbkikaaHpH
namespace Go.Proofs.Ytcdapnhcgbkikaa
open Go.RowKit

structure LS (w0 w : World) (S : Nat → Prop) (g : Nat) (most : Int) (M : List Cel) (Fn : Nat → Nat) : Prop where
  ph : PH w S g most M Fn
  base : ∀ k, S k → w0.heap.size ≤ k
  below : Below w0.heap.size w0 w
section
variable {w0 w w' : World} {S S' : Nat → Prop} {g : Nat} {most : Int} {M M' : List Cel} {Fn Fn' : Nat → Nat}
theorem LS.out (h : LS w0 w S g most M Fn) {k : Nat} (hk : k < w0.heap.size) : Out S w k := ⟨Nat.lt_of_lt_of_le hk h.below.size, fun q => by have := h.base k q; omega⟩
theorem LS.step (h : LS w0 w S g most M Fn) (hp : PH w' S g most M' Fn') (hk : Keep (Out S w) w w') : LS w0 w' S g most M' Fn' :=
  ⟨hp, h.base, h.below.trans (hk.mono fun _ q => h.out q).to_below⟩
theorem LS.stepX (h : LS w0 w S g most M Fn) (hp : PH w' (Sx S w w') g most M' Fn') (hk : Keep (Out S w) w w') : LS w0 w' (Sx S w w') g most M' Fn' :=
  ⟨hp, fun k q => by rcases q with q | q; exact h.base k q; exact Nat.le_trans h.below.size q.1, h.below.trans (hk.mono fun _ q => h.out q).to_below⟩
theorem LS.to (h : LS w0 w S g most M Fn) (hb : Below w.heap.size w w') : LS w0 w' S g most M Fn := h.step (h.ph.below hb) (keep_below hb)
theorem LS.made (w0 : World) (most : Int) : LS w0 (w0.alloc (.cells #[.int .i64 most, .slice none 0 0] 66)) (fun k => k = w0.heap.size) w0.heap.size most [] id :=
  ⟨PH.made w0 most, fun _ q => Nat.le_of_eq q.symm, (Below.refl _ _).alloc (Nat.le_refl _) _⟩
end
/-- the state behind a call that may add blocks: the blocks are left out; P: blocks that are not the heap's -/
def LE (w0 w : World) (P : Nat → Prop) (g : Nat) (most : Int) (M : List Cel) (Fn : Nat → Nat) : Prop := ∃ S, LS w0 w S g most M Fn ∧ ∀ k, P k → Out S w k
section
variable {w0 w w' : World} {P P' : Nat → Prop} {g : Nat} {most : Int} {M M' : List Cel} {Fn Fn' : Nat → Nat}
theorem LE.to (h : LE w0 w P g most M Fn) (hb : Below w.heap.size w w') : LE w0 w' P g most M Fn := by
  obtain ⟨S, h, hp⟩ := h
  exact ⟨S, h.to hb, fun k q => (hp k q).same (keep_below hb)⟩
theorem LE.mono (h : LE w0 w P g most M Fn) (hp : ∀ k, P' k → P k) : LE w0 w P' g most M Fn := by
  obtain ⟨S, h, hp2⟩ := h
  exact ⟨S, h, fun k q => hp2 k (hp k q)⟩
theorem LE.set_ (h : LE w0 w P g most M Fn) {p : Addr} (hp : P p.block) (hw : w0.heap.size ≤ p.block) (u : Value) : LE w0 (w.setCell p u) P g most M Fn := by
  obtain ⟨S, h, hp2⟩ := h
  have k1 : ∀ (Q : Nat → Prop), ¬ Q p.block → Keep Q w (w.setCell p u) := fun Q hq => (Keep.refl Q w).setCell hq u
  refine ⟨S, ⟨h.ph.keep (k1 S (hp2 _ hp).2), h.base, h.below.setCell hw u⟩, fun k q => ⟨?_, (hp2 k q).2⟩⟩
  exact Nat.lt_of_lt_of_le (hp2 k q).1 (k1 (fun _ => False) id).size
/-- a new block beside the heap -/
theorem LE.add (h : LE w0 w P g most M Fn) (o : Obj) : LE w0 (w.alloc o) (fun k => P k ∨ k = w.heap.size) g most M Fn := by
  obtain ⟨S, h, hp⟩ := h
  refine ⟨S, h.to ((Below.refl _ _).alloc (Nat.le_refl _) o), fun k q => ?_⟩
  rcases q with q | q
  · exact ⟨by have := (hp k q).1; simp; omega, (hp k q).2⟩
  · subst q
    exact ⟨by simp, fun q => by have := h.ph.lt _ q; omega⟩
theorem LE.own (h : LE w0 w P g most M Fn) : LE w0 w (fun k => P k ∨ k < w0.heap.size) g most M Fn := by
  obtain ⟨S, h, hp⟩ := h
  exact ⟨S, h, fun k q => by rcases q with q | q; exact hp k q; exact h.out q⟩
theorem LE.below (h : LE w0 w P g most M Fn) : Below w0.heap.size w0 w := by
  obtain ⟨S, h, _⟩ := h
  exact h.below
theorem LE.alloc (h : LE w0 w P g most M Fn) (hM : M.length ≤ 65536) (k m : Int) (l : List Int) (A2 : Option Addr) (n2 c2 : Nat) (hn2 : n2 = l.length) (hl2 : n2 ≤ 8796093022208) (hA2 : InC w A2 (intV l)) :
    Calls Try.prog 14 #[.pointer (some ⟨g, 0, none⟩), .agg #[.int .i64 k, .int .i64 m, .slice A2 n2 c2]] w
    fun e w' => e = .returned (.tuple #[.int .i64 (allocM most M (k, m, l)).1, .int .i64 (allocM most M (k, m, l)).2.1]) ∧ LE w0 w' P g most (allocM most M (k, m, l)).2.2 Fn ∧ Keep P w w' := by
  obtain ⟨S, h, hp⟩ := h
  refine (alloc_any h.ph hM k m l A2 n2 c2 hn2 hl2 hA2).mono ?_
  rintro e w' ⟨he, hq, hk⟩
  exact ⟨he, ⟨_, h.stepX hq hk, fun k q => (hp k q).step hk⟩, hk.mono hp⟩
theorem LE.alloc0 (h : LE w0 w P g most M Fn) (hM : M.length ≤ 65536) (k m : Int) : Calls Try.prog 14 #[.pointer (some ⟨g, 0, none⟩), .agg #[.int .i64 k, .int .i64 m, .slice none 0 0]] w
    fun e w' => e = .returned (.tuple #[.int .i64 (allocM most M (k, m, [])).1, .int .i64 (allocM most M (k, m, [])).2.1]) ∧ LE w0 w' P g most (allocM most M (k, m, [])).2.2 Fn ∧ Keep P w w' :=
  h.alloc hM k m [] none 0 0 rfl (by decide) (.inl rfl)
theorem LE.enter (h : LE w0 w P g most M Fn) (r : Int) : Calls Try.prog 15 #[.pointer (some ⟨g, 0, none⟩), .int .i64 r] w
    fun e w' => (∃ A n c, e = .returned (.tuple #[.agg #[.int .i64 (enterM M Fn r).1.1, .int .i64 (enterM M Fn r).1.2.1, .slice A n c], .int .i64 (enterM M Fn r).2.1])) ∧ LE w0 w' P g most (enterM M Fn r).2.2 Fn ∧ Keep P w w' := by
  obtain ⟨S, h, hp⟩ := h
  refine (enter_any h.ph r).mono ?_
  rintro e w' ⟨v, he, hv, hq, hk⟩
  obtain ⟨A, c, rfl⟩ := owns_form hv.1
  exact ⟨⟨A, _, c, he⟩, ⟨_, h.step hq hk, fun k q => (hp k q).same hk⟩, hk.mono hp⟩
theorem LE.update (h : LE w0 w P g most M Fn) (r tt : Int) : Calls Try.prog 16 #[.pointer (some ⟨g, 0, none⟩), .int .i64 r, .int .i64 tt] w
    fun e w' => e = .returned (.int .i64 (updateM M Fn r tt).1) ∧ LE w0 w' P g most (updateM M Fn r tt).2.1 (updateM M Fn r tt).2.2 ∧ Keep P w w' := by
  obtain ⟨S, h, hp⟩ := h
  refine (update_any h.ph r tt).mono ?_
  rintro e w' ⟨he, hq, hk⟩
  exact ⟨he, ⟨_, h.stepX hq hk, fun k q => (hp k q).step hk⟩, hk.mono hp⟩
/-- Read: the cell's references lie in a block of their own -/
theorem LE.read (h : LE w0 w P g most M Fn) (hW : WF M) (r : Int) : Calls Try.prog 17 #[.pointer (some ⟨g, 0, none⟩), .int .i64 r] w
    fun e w' => ∃ A c, e = .returned (.tuple #[.agg #[.int .i64 (readM M Fn r).1.1, .int .i64 (readM M Fn r).1.2.1, .slice A (readM M Fn r).1.2.2.length c], .int .i64 (readM M Fn r).2.1, .int .i64 (readM M Fn r).2.2]) ∧
      w'.ownsRow w.heap.size 3 1 (.slice A (readM M Fn r).1.2.2.length c) (readM M Fn r).1.2.2.length (intV (readM M Fn r).1.2.2) ∧ LE w0 w' (fun k => P k ∨ (Value.slice A (readM M Fn r).1.2.2.length c).ownBlock = some k) g most M Fn ∧ Keep P w w' := by
  obtain ⟨S, h, hp⟩ := h
  refine (read_any h.ph hW r).mono ?_
  rintro e w' ⟨v, he, hv, hq, hk⟩
  obtain ⟨A, c, rfl⟩ := owns_form hv
  refine ⟨A, c, he, hv, ⟨_, h.step hq hk, fun k q => ?_⟩, hk.mono hp⟩
  rcases q with q | q
  · exact (hp k q).same hk
  · exact ⟨(hv.lt k q).2, fun s => by have := h.ph.lt k s; have := (hv.lt k q).1; omega⟩
theorem LE.size (h : LE w0 w P g most M Fn) : Calls Try.prog 18 #[.pointer (some ⟨g, 0, none⟩)] w fun e w' => e = .returned (.int .i64 (M.length : Int)) ∧ w' = w := by
  obtain ⟨S, h, _⟩ := h
  exact size_any h.ph
/-- New at a number that is allowed -/
theorem new_ok {most : Int} (h : 1 ≤ most ∧ most ≤ 65536) (w : World) : Calls Try.prog 13 #[.int .i64 most] w fun e w' => e = .returned (.tuple #[.pointer (some ⟨w.heap.size, 0, none⟩), .int .i64 0]) ∧ LE w w' (fun k => k < w.heap.size) w.heap.size most [] id := by
  refine (new_any most w).mono ?_
  rintro e w' ⟨h1, _⟩
  obtain ⟨he, rfl⟩ := h1 h
  exact ⟨he, _, LS.made w most, fun k q => (LS.made w most).out q⟩
end
theorem WF.all {M : List Cel} (h : (M.all fun c => c.2.2.all fun r => decide (0 ≤ r) && decide (r < (M.length : Int))) = true) (h2 : (M.all fun c => decide (c.2.2.length ≤ 4096)) = true) : WF M :=
  ⟨fun i c hc => by have := List.all_eq_true.1 h2 c (List.mem_of_getElem? hc); simpa using this, fun i c r hc hr => by
    have := List.all_eq_true.1 (List.all_eq_true.1 h c (List.mem_of_getElem? hc)) r hr
    simpa using this⟩
set_option maxRecDepth 100000 in
set_option maxHeartbeats 6400000 in
theorem awake_any (w : World) : Calls Try.prog 9 #[] w fun e w' => e = .returned (.bool true) ∧ Below w.heap.size w w' := by
  obtain ⟨g, hg⟩ : ∃ g, Hid (g = w.heap.size) := ⟨_, Lib.hid rfl⟩
  go_enter Try.func9, Try.ntmps9
  go_wp2_with fail
  refine (new_ok (most := 4) (by decide) w).mono ?_
  rintro e w1 ⟨rfl, h1⟩
  rw [← hg.out] at h1
  rw [← hg.out]
  have H1 := hide h1
  clear h1
  go_wp2_with fail
  refine ((unhide H1).alloc0 (by decide) 1 7).mono ?_
  rintro e w2 ⟨he, h2, -⟩
  have hv : allocM 4 [] (1, 7, []) = (0, 0, [(1, 7, [])]) := by rfl
  rw [hv] at he h2
  subst he
  have H2 := hide h2
  clear h2 hv
  go_wp2_with fail
  refine ((unhide H2).enter 0).mono ?_
  rintro e w3 ⟨⟨A3, n3, c3, he⟩, h3, -⟩
  have hv : enterM [(1, 7, [])] id 0 = ((1, 7, []), 0, [(2, 7, [])]) := by rfl
  rw [hv] at he h3
  subst he
  have H3 := hide (h3.add (.cells #[.int .i64 1, .int .i64 7, .slice A3 n3 c3] 43))
  have K3 := hide (Blk.new w3 43 #[.int .i64 1, .int .i64 7, .slice A3 n3 c3])
  obtain ⟨b3, hb3⟩ : ∃ b, Hid (b = w3.heap.size) := ⟨_, Lib.hid rfl⟩
  rw [← hb3.out] at H3 K3
  clear h3 hv
  go_wp2_with fail
  simp only [← hb3.out]
  generalize w3.alloc (.cells #[.int .i64 1, .int .i64 7, .slice A3 n3 c3] 43) = w3a at *
  refine ((unhide H3).enter 0).mono ?_
  rintro e w4 ⟨⟨A4, n4, c4, he⟩, h4, k4⟩
  have hv : enterM [(2, 7, [])] id 0 = ((0, 0, []), 14, [(2, 7, [])]) := by rfl
  rw [hv] at he h4
  subst he
  have K4 := hide ((unhide K3).keep k4 (.inr rfl))
  have H4 := hide h4
  clear h4 hv k4 K3
  go_wp2_with fail
  have H4a := hide ((unhide H4).to ((Below.refl _ _).alloc (Nat.le_refl _) (.cells #[.int .i64 0, .int .i64 0, .slice A4 n4 c4] 43)))
  have K4a := hide ((unhide K4).alloc (.cells #[.int .i64 0, .int .i64 0, .slice A4 n4 c4] 43))
  generalize w4.alloc (.cells #[.int .i64 0, .int .i64 0, .slice A4 n4 c4] 43) = w4a at *
  refine ((unhide H4a).alloc0 (by decide) 4 9).mono ?_
  rintro e w5 ⟨he, h5, k5⟩
  have hv : allocM 4 [(2, 7, [])] (4, 9, []) = (1, 0, [(2, 7, []), (4, 9, [])]) := by rfl
  rw [hv] at he h5
  subst he
  have H5 := hide h5
  have K5 := hide ((unhide K4a).keep k5 (.inr rfl))
  clear h5 hv k5 K4a K4 H4 H4a
  go_wp2_with fail
  refine ((unhide H5).update 0 1).mono ?_
  rintro e w6 ⟨he, h6, k6⟩
  have hv : updateM [(2, 7, []), (4, 9, [])] id 0 1 = (0, [(3, 7, [1]), (4, 9, [])], updF id 0 1) := by rfl
  rw [hv] at he h6
  subst he
  have H6 := hide h6
  have K6 := hide ((unhide K5).keep k6 (.inr rfl))
  clear h6 hv k6 K5 H5
  go_wp2_with fail
  refine ((unhide H6).read (WF.all (by decide) (by decide)) 0).mono ?_
  rintro e w7 ⟨A7, c7, he, -, h7, k7⟩
  have hv : readM [(3, 7, [1]), (4, 9, [])] (updF id 0 1) 0 = ((4, 9, []), 1, 0) := by rfl
  rw [hv] at he
  subst he
  have H7 := hide (h7.to ((Below.refl _ _).alloc (Nat.le_refl _) (.cells #[.int .i64 4, .int .i64 9, .slice A7 0 c7] 43)))
  have K7 := hide (((unhide K6).keep k7 (.inr rfl)).alloc (.cells #[.int .i64 4, .int .i64 9, .slice A7 0 c7] 43))
  have K8 := hide (Blk.new w7 43 #[.int .i64 4, .int .i64 9, .slice A7 0 c7])
  obtain ⟨b8, hb8⟩ : ∃ b, Hid (b = w7.heap.size) := ⟨_, Lib.hid rfl⟩
  rw [← hb8.out] at K8
  clear h7 hv k7 K6 H6
  have e3 := (unhide K7).cell 1
  change (w7.alloc (.cells #[.int .i64 4, .int .i64 9, .slice A7 0 c7] 43)).cell? ⟨b3, 1, none⟩ = some (.int .i64 7) at e3
  simp only [List.length_nil]
  go_wp2_with fail
  refine ((unhide H7).size).mono ?_
  rintro e w9 ⟨rfl, hw9⟩
  subst hw9
  go_wp2_with fail
  go_ret
  exact ⟨rfl, (unhide H7).below⟩
end Go.Proofs.Ytcdapnhcgbkikaa
