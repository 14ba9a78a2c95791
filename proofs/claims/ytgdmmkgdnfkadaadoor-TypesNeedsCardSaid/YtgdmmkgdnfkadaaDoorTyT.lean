/- The program's Needs. Condition: a list of nodes has a length. -/
import Derived.Test.YtgdmmkgdnfkadaaDoorTyS
import Derived.Test.YtgdmmkgdnfkadaaDoorTyR
import Derived.Test.YtgdmmkgdnfkadaaDoorTyB
import Derived.Test.YtgdmmkgdnfkadaaDoorTyI
namespace Go.Proofs.YtgdmmkgdnfkadaaDoor
open Go.RowKit M

/-- may the type belong to the classes? -/
def okN (ts : List TN) (c : Int) : Bool := decide (0 ≤ c ∧ c ≤ 7) && (valT ts && ts.all fun t => perm t.1 c)
def resN (ts : List TN) (c : Int) : List Int := if okN ts c = true ∧ c ≠ 0 then needV ts else []
def NeedsPost (ts : List TN) (c : Int) (w : World) (e : Ending) (w' : World) : Prop :=
  ∃ v, e = .returned (.tuple #[v, .bool (okN ts c)]) ∧ w'.ownsRow w.heap.size 59 2 v (resN ts c).length ((resN ts c).flatMap (nq c)) ∧ Below w.heap.size w w'
theorem okN_class {ts : List TN} {c : Int} (h : ¬ (0 ≤ c ∧ c ≤ 7)) : okN ts c = false := by unfold okN; simp [h]
theorem okN_val {ts : List TN} {c : Int} (h : valT ts = false) : okN ts c = false := by unfold okN; simp [h]
theorem okN_perm {ts : List TN} {c : Int} {t : TN} (h : t ∈ ts) (hp : perm t.1 c = false) : okN ts c = false := by
  unfold okN
  have : ts.all (fun t => perm t.1 c) = false := List.all_eq_false.2 ⟨t, h, by simp [hp]⟩
  rw [this]; simp
theorem okN_true {ts : List TN} {c : Int} (h : 0 ≤ c ∧ c ≤ 7) (hv : valT ts = true) (hp : ∀ t ∈ ts, perm t.1 c = true) : okN ts c = true := by
  unfold okN
  have : ts.all (fun t => perm t.1 c) = true := List.all_eq_true.2 hp
  rw [this, hv]; simp [h]
theorem post_no {ts : List TN} {c : Int} {w w' : World} (h : okN ts c = false) (hb : Below w.heap.size w w') : NeedsPost ts c w (.returned (.tuple #[.slice none 0 0, .bool false])) w' := by
  refine ⟨_, by rw [h], ?_, hb⟩
  have : resN ts c = [] := by unfold resN; rw [if_neg (fun q => by rw [h] at q; exact absurd q.1 (by decide))]
  rw [this]
  exact World.ownsRow_nil _ _ _ _
theorem post_yes {ts : List TN} {c : Int} {w w' : World} {v : Value} {l : List Int} (h : okN ts c = true) (hl : resN ts c = l) (ho : w'.ownsRow w.heap.size 59 2 v l.length (l.flatMap (nq c))) (hb : Below w.heap.size w w') : NeedsPost ts c w (.returned (.tuple #[v, .bool true])) w' := by
  subst hl
  exact ⟨_, by rw [h], ho, hb⟩
theorem own_ints {w : World} {b : Nat} {e : TypeId} {v : Value} {zs : List Int} (h : w.ownsRow b e 1 v zs.length (intsV zs)) : IntsIn w.heap.size w v zs := by
  rcases h.2 with ⟨rfl, h0⟩ | ⟨g, cap, cur, rfl, _, hg, _⟩
  · exact .inl ⟨rfl, List.eq_nil_of_length_eq_zero h0⟩
  · refine .inr ⟨g, 0, cap, rfl, lt_of_some hg, fun j hj => ?_⟩
    have := h.cells (g := g) rfl j (.int .i64 zs[j]) (by simp [intsV, List.getElem?_eq_getElem hj])
    rw [add_at] at this
    rw [List.getElem?_eq_getElem hj]
    exact this
theorem IntsIn.up {a b : Nat} {W : World} {sv : Value} {zs : List Int} (h : IntsIn a W sv zs) (hab : a ≤ b) : IntsIn b W sv zs := by
  rcases h with h | ⟨x, off, cap, e, hb, hc⟩
  · exact .inl h
  · exact .inr ⟨x, off, cap, e, by omega, hc⟩
theorem InC.at1 {w : World} {A : Option Addr} {xs : List Value} (h : InC w A xs) {i : Nat} {u : Value} (hi : xs[i]? = some u) : ∃ b off, A = some ⟨b, off, none⟩ ∧ b < w.heap.size ∧ w.cell? ⟨b, off + i, none⟩ = some u := by
  rcases h with rfl | ⟨b, off, h1, h2, h3⟩
  · simp at hi
  · exact ⟨b, off, h1, h2, h3 i u hi⟩
theorem all_perm_step {ts : List TN} {c : Int} {j : Nat} {t : TN} (h : ∀ u ∈ ts.take j, perm u.1 c = true) (ht : ts[j]? = some t) (hp : perm t.1 c = true) : ∀ u ∈ ts.take (j + 1), perm u.1 c = true := by
  intro u hu
  rw [List.take_add_one, ht] at hu
  rcases List.mem_append.1 hu with q | q
  · exact h u q
  · simp at q; rw [q]; exact hp
theorem vars_len (ts : List TN) : (varsL ts).length ≤ ts.length := by
  have := varsL_len ts ts.length
  rwa [List.take_length] at this
theorem needV_len (ts : List TN) : (needV ts).length ≤ ts.length := by rw [← sort_vars, sortI_len]; exact vars_len ts

set_option maxRecDepth 100000 in
set_option maxHeartbeats 6400000 in
theorem needs_any (w : World) (A : Option Addr) (n cp : Nat) (c : Int) (ts : List TN) (hn : n = ts.length) (hl : n ≤ maxLen) (hcp : n ≤ cp) (hA : InC w A (ts.flatMap ndCells)) :
    Calls Tryd.prog 37 #[.slice A n cp, .int .i64 c] w (NeedsPost ts c w) := by
  have HA := hide hA
  subst hn
  unfold maxLen at hl
  clear hA
  go_enter Tryd.func37, Tryd.ntmps37
  by_cases hc : 0 ≤ c ∧ c ≤ 7
  · obtain ⟨h0, h7⟩ := hc
    cases hv : valT ts
    · have HOF := Lib.hid (okN_val (c := c) hv)
      go_wp2_with fail
      refine (valid_b ts _ hv _ A cp (by unfold maxLen; omega) hcp (unhide HA)).mono ?_
      rintro e w1 ⟨rfl, hb1⟩
      have HB1 := hide hb1
      clear hb1
      go_wp2_with fail
      go_ret2
      exact post_no HOF.out (unhide HB1)
    · have HV := Lib.hid hv
      have hlen := valT_len hv
      go_wp2_with fail
      refine (valid_b ts _ hv _ A cp (by unfold maxLen; omega) hcp (unhide HA)).mono ?_
      rintro e w1 ⟨rfl, hb1⟩
      have HB1 := hide hb1
      clear hb1 hv
      go_wp2_with fail
      go_loopw [24] (fun i wr => ∃ j : Nat, i = .int .i64 j ∧ j ≤ ts.length ∧ Hid (∀ u ∈ ts.take j, perm u.1 c = true) ∧ Hid (Below w.heap.size w wr)) (fun i _ => ts.length - (intOf i).toNat)
      case atStart => exact ⟨0, rfl, by omega, by intro u hu; simp at hu, unhide HB1⟩
      case round =>
        obtain ⟨j, rfl, hj, hP, hB⟩ := hrel
        by_cases hlt : j < ts.length
        · obtain ⟨t, ht⟩ : ∃ t, ts[j]? = some t := ⟨ts[j], List.getElem?_eq_getElem hlt⟩
          obtain ⟨b, off, rfl, hb, hcell⟩ := ((unhide HA).below hB.out).elem nd_len ht (by decide)
          have x0 := hcell 0 _ rfl
          have x1 := hcell 1 _ rfl
          have x2 := hcell 2 _ rfl
          have HT := Lib.hid ht
          obtain ⟨k, num, kids⟩ := t
          simp only [Nat.add_zero] at x0 x1 x2
          have hbz := hB.out.size
          clear hcell ht
          go_wp2_with fail
          refine (permitted_any k c h0 h7 _).mono ?_
          rintro e w2 ⟨rfl, rfl⟩
          cases hp : perm k c
          · have HOF := Lib.hid (okN_perm (c := c) (List.mem_of_getElem? HT.out) hp)
            go_wp2_with fail
            go_ret2
            exact post_no HOF.out (hB.out.alloc hbz _)
          · have HPS := Lib.hid (all_perm_step hP.out HT.out hp)
            go_wp2_with fail
            go_roundw
            case rel => exact ⟨j + 1, by go_num, by omega, HPS.out, hB.out.alloc hbz _⟩
            case measure => simp [intOf]; omega
        · have hjn : ts.take j = ts := List.take_of_length_le (by omega)
          rw [hjn] at hP
          have HOT := Lib.hid (okN_true ⟨h0, h7⟩ HV.out hP.out)
          clear hjn hP
          by_cases hc0 : c = 0
          · subst hc0
            go_wp2_with fail
            go_ret2
            exact post_yes HOT.out (l := []) (by unfold resN; rw [if_neg (by simp)]) (World.ownsRow_nil _ _ _ _) hB.out
          · have g1 : (c == 0) = false := beq_eq_false_iff_ne.2 hc0
            have HRS : Hid (resN ts c = sortI (varsL ts)) := by show _ = _; unfold resN; rw [if_pos ⟨HOT.out, hc0⟩, sort_vars]
            have HA1 := hide ((unhide HA).below hB.out)
            have hvl := vars_len ts
            go_wp2_with fail
            refine (vars_any _ A ts.length cp ts rfl (by omega) (unhide HA1)).mono ?_
            rintro e w3 ⟨v3, rfl, hO3, hb3⟩
            have HB3 := hide (hB.out.trans (hb3.mono hB.out.size))
            have HI3 := hide (own_ints hO3)
            obtain ⟨A3, c3, rfl⟩ := owns_form hO3
            clear hO3 hb3 HA1
            go_wp2_with fail
            refine (values_any A3 _ c3 w3).mono ?_
            rintro e w4 ⟨rfl, rfl⟩
            go_wp2_with fail
            refine (sortedVals_any w3.heap.size (.slice A3 (varsL ts).length c3) (varsL ts) (by omega) _ (by simp) ((Blk.new w3 23 #[.slice A3 (varsL ts).length c3]).cell 0) ?_).mono ?_
            · exact ((unhide HI3).below ((Below.refl w3.heap.size w3).alloc (Nat.le_refl _) _)).up (by simp)
            rintro e w5 ⟨v5, rfl, hO5, hb5⟩
            have HB5 := hide (((unhide HB3).alloc (unhide HB3).size (.cells #[.slice A3 (varsL ts).length c3] 23)).trans (hb5.mono (by have := (unhide HB3).size; simp; omega)))
            have hwz := (unhide HB3).size
            obtain ⟨A5, c5, rfl⟩ := owns_form hO5
            have hO6 := owns_base (b' := w.heap.size) hO5 (by simp; omega)
            have hso := sort_vars ts
            have hnl := needV_len ts
            rw [hso] at hO6 HRS
            have HO5 := hide hO6
            clear hO6 hO5 hb5 HI3 HB3
            have HSO := Lib.hid hso
            rw [hso]
            clear hso
            generalize w3 = wx at *
            go_wp2_with fail
            have HRS2 := HRS
            obtain ⟨i0, hi0, hiz0, hiz1, hiz2⟩ := info_parts need_info
            generalize hL : needV ts = L at *
            clear hL
            go_loopw [8, 41] (fun v i wr => ∃ j : Nat, i = .int .i64 j ∧ j ≤ L.length ∧ Hid (wr.ownsRow w.heap.size 59 2 v j ((L.take j).flatMap (nq c))) ∧ Hid (wr.ownsRow w.heap.size 3 1 (.slice A5 L.length c5) L.length (L.map (Value.int .i64))) ∧ Hid (Below w.heap.size w wr)) (fun _ i _ => L.length - (intOf i).toNat)
            case atStart => exact ⟨0, rfl, by omega, World.ownsRow_nil _ _ _ _, unhide HO5, unhide HB5⟩
            case round =>
              obtain ⟨q, rfl, hq, hR, hS, hB6⟩ := hrel
              obtain ⟨A6, c6, rfl⟩ := owns_form hR.out
              by_cases hql : q < L.length
              · have hLq : L[q]? = some L[q] := List.getElem?_eq_getElem hql
                generalize L[q] = u at hLq
                obtain ⟨b5, o5, rfl, hb5, hc5⟩ := (InC.own hS.out).at1 (i := q) (u := .int .i64 u) (by rw [List.getElem?_map, hLq]; rfl)
                have HTK : Hid ((L.take (q + 1)).flatMap (nq c) = (L.take q).flatMap (nq c) ++ [.int .i64 u, .int .i64 c]) := by
                  show _ = _
                  rw [List.take_add_one, hLq]; simp [nq]
                clear hLq
                have hbz := hB6.out.size
                go_wp2_with (at_builtin; refine wpList_app _ rfl _ _ 54 rfl w.heap.size 59 i0 _ 2 16 Tryd.underlying54 hi0 hiz0 hiz1 hiz2 rfl (by decide) _ q ((L.take q).flatMap (nq c)) rfl (hR.out.alloc _) _ 1 1 [.int .i64 u, .int .i64 c] rfl rfl (new_in _ _ #[.int .i64 u, .int .i64 c]) (by intro x hx; simp at hx; rcases hx with rfl | rfl <;> rfl) (by unfold maxLen; omega) (by omega) (by simp; omega) ?_; intro v7 w7 hown7 hgrow7 _)
                have HB7 := hide (below_app (hB6.out.alloc hbz _) (hR.out.alloc _) hgrow7)
                have HS7 := hide (owns_other (hS.out.alloc _) hgrow7 (fun k hk e => own_own_ne hS.out hR.out (by decide) k hk e))
                rw [← HTK.out] at hown7
                have HR7 := hide hown7
                clear hown7 hgrow7
                go_roundw
                case rel => exact ⟨q + 1, by go_num, by omega, unhide HR7, unhide HS7, unhide HB7⟩
                case measure => simp [intOf]; omega
              · have hqe : q = L.length := by omega
                have hown : wr.ownsRow w.heap.size 59 2 (.slice A6 q c6) L.length (L.flatMap (nq c)) := by
                  have := hR.out
                  rw [List.take_of_length_le (by omega)] at this
                  rw [hqe] at this ⊢
                  exact this
                have HR8 := hide hown
                clear hown hR hqe
                go_wp2_with fail
                go_ret2
                exact post_yes HOT.out HRS2.out (unhide HR8) hB6.out
  · have HOF := Lib.hid (okN_class (ts := ts) hc)
    by_cases h0 : c < 0
    · clear hc
      go_wp2_with fail
      go_ret2
      exact post_no HOF.out (Below.refl _ _)
    · have h7 : 7 < c := by omega
      clear hc
      go_wp2_with fail
      go_ret2
      exact post_no HOF.out (Below.refl _ _)

end Go.Proofs.YtgdmmkgdnfkadaaDoor
