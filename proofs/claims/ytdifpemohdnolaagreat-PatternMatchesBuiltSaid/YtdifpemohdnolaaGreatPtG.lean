/- The matcher's around. Conditions: the value has at most 2^48 bytes; at most 2^40 first and last elements. -/

import Derived.Test.YtdifpemohdnolaaGreatFnF
import Derived.Test.YtdifpemohdnolaaGreatPtB
import Derived.Test.YtdifpemohdnolaaGreatPtF
import Derived.Test.YtdifpemohdnolaaGreatVpC
namespace Go.Proofs.YtdifpemohdnolaaGreat
open Go.RowKit VM

set_option linter.unusedSimpArgs false in
set_option maxRecDepth 100000 in
set_option maxHeartbeats 6400000 in
theorem concat3_any (a b d : List ByteArray) (A B D X : Option Addr) (n m q ca cb cd cx : Nat) (w : World) (hn : n = a.length) (hm : m = b.length) (hq : q = d.length) (hn1 : n ≤ 1048576) (hm1 : m ≤ 1048576) (hq1 : q ≤ 1048576) (hA : InC w A (a.map Value.string)) (hB : InC w B (b.map Value.string)) (hD : InC w D (d.map Value.string)) (hX : InC w X [.slice A n ca, .slice B m cb, .slice D q cd]) :
    Calls Tryz.prog 91 #[.slice X 3 cx] w (RowR w (a ++ b ++ d)) := by
  obtain ⟨i0, hi0, hiz0, hiz1, hiz2⟩ := info_parts val_info
  have HA := hide hA
  have HBB := hide hB
  have HDD := hide hD
  have HX := hide hX
  have HN := Lib.hid hn
  have HM := Lib.hid hm
  have HQ := Lib.hid hq
  have HLA : Hid ((a.map Value.string).length = n * 1) := Lib.hid (by rw [List.length_map]; omega)
  have HLB : Hid ((b.map Value.string).length = m * 1) := Lib.hid (by rw [List.length_map]; omega)
  have HLD : Hid ((d.map Value.string).length = q * 1) := Lib.hid (by rw [List.length_map]; omega)
  obtain ⟨bx, ox, hX1, hbx, hx0⟩ := at1s hX (i := 0) (u := .slice A n ca) rfl
  subst hX1
  have hx1 : w.cell? ⟨bx, ox + 1, none⟩ = some (.slice B m cb) := by
    obtain ⟨b', o', e, _, h⟩ := at1s hX (i := 1) (u := .slice B m cb) rfl
    injection e with e
    injection e with e1 e2 e3
    subst e1; subst e2
    exact h
  have hx2 : w.cell? ⟨bx, ox + 2, none⟩ = some (.slice D q cd) := by
    obtain ⟨b', o', e, _, h⟩ := at1s hX (i := 2) (u := .slice D q cd) rfl
    injection e with e
    injection e with e1 e2 e3
    subst e1; subst e2
    exact h
  have HG := Lib.hid (fun k hk w => grow_any k hk w)
  rw [Nat.add_zero] at hx0
  clear hn hm hq hA hB hD hX
  go_enter Tryz.func91, Tryz.ntmps91
  go_wp2_with fail
  go_loopw [3, 11] (fun sv iv wr => Hid (wr = w) ∧ ((iv = .int .i64 0 ∧ sv = .int .i64 0) ∨ (iv = .int .i64 1 ∧ sv = .int .i64 (n : Int)) ∨ (iv = .int .i64 2 ∧ sv = .int .i64 ((n + m : Nat) : Int)) ∨ (iv = .int .i64 3 ∧ sv = .int .i64 ((n + m + q : Nat) : Int)))) (fun _ iv _ => 3 - (intOf iv).toNat)
  case atStart => exact ⟨rfl, .inl ⟨rfl, rfl⟩⟩
  case round =>
    obtain ⟨hw, hrel⟩ := hrel
    obtain rfl : w = wr := hw.out.symm
    obtain ⟨rfl, rfl⟩ | ⟨rfl, rfl⟩ | ⟨rfl, rfl⟩ | ⟨rfl, rfl⟩ := hrel
    · go_wp2_with fail
      go_roundw
      case rel => exact ⟨trivial, .inr (.inl ⟨rfl, by go_num⟩)⟩
      case measure => simp [intOf]
    · go_wp2_with fail
      go_roundw
      case rel => exact ⟨trivial, .inr (.inr (.inl ⟨rfl, by go_num⟩))⟩
      case measure => simp [intOf]
    · go_wp2_with fail
      go_roundw
      case rel => exact ⟨trivial, .inr (.inr (.inr ⟨rfl, by go_num⟩))⟩
      case measure => simp [intOf]
    · go_wp2_with fail
      refine (HG.out (n + m + q) (by omega) _).mono ?_
      rintro e w3 ⟨B3, c3, rfl, hO3, hb3⟩
      have HO3 := hide hO3
      have HB3 := hide hb3
      clear hO3 hb3
      go_wp2_with fail
      go_loopw [6, 27] (fun rv iv wr => Hid (Below w.heap.size w wr) ∧ ((iv = .int .i64 0 ∧ Hid (wr.ownsRow w.heap.size 23 1 rv 0 [])) ∨ (iv = .int .i64 1 ∧ Hid (wr.ownsRow w.heap.size 23 1 rv n (a.map Value.string))) ∨ (iv = .int .i64 2 ∧ Hid (wr.ownsRow w.heap.size 23 1 rv (n + m) ((a ++ b).map Value.string))) ∨ (iv = .int .i64 3 ∧ Hid (wr.ownsRow w.heap.size 23 1 rv (n + m + q) ((a ++ b ++ d).map Value.string))))) (fun _ iv _ => 3 - (intOf iv).toNat)
      case atStart => exact ⟨unhide HB3, .inl ⟨rfl, unhide HO3⟩⟩
      case round =>
        obtain ⟨hB, ⟨rfl, hO⟩ | ⟨rfl, hO⟩ | ⟨rfl, hO⟩ | ⟨rfl, hO⟩⟩ := hrel
        · obtain ⟨A4, c4, rfl⟩ := owns_form hO.out
          have y0 : wr.cell? ⟨bx, ox, none⟩ = some (.slice A n ca) := (hB.out.cell (p := ⟨bx, ox, none⟩) hbx).trans hx0
          have HR := hide ((unhide HA).below hB.out)
          have hsz := hB.out.size
          go_wp2_with (at_builtin; refine wpList_app _ rfl _ _ 24 rfl w.heap.size 23 i0 _ 1 16 Tryz.underlying24 hi0 hiz0 hiz1 hiz2 rfl (by decide) _ 0 [] rfl hO.out A n ca (a.map Value.string) rfl HLA.out (unhide HR) (str_one a) (by unfold maxLen; omega) (by omega) hsz ?_; intro v5 w5 hown5 hgrow5 _)
          have HB5 := hide (below_app hB.out hO.out hgrow5)
          have HO5 : Hid (w5.ownsRow w.heap.size 23 1 v5 n (a.map Value.string)) := hide (by have h := hown5; rw [Nat.zero_add, List.nil_append] at h; exact h)
          clear hown5 hgrow5
          go_wp2_with fail
          go_roundw
          case rel => exact ⟨unhide HB5, .inr (.inl ⟨by go_num, unhide HO5⟩)⟩
          case measure => simp [intOf]
        · obtain ⟨A4, c4, rfl⟩ := owns_form hO.out
          have y0 : wr.cell? ⟨bx, ox + 1, none⟩ = some (.slice B m cb) := (hB.out.cell (p := ⟨bx, ox + 1, none⟩) hbx).trans hx1
          have HR := hide ((unhide HBB).below hB.out)
          have hsz := hB.out.size
          go_wp2_with (at_builtin; refine wpList_app _ rfl _ _ 24 rfl w.heap.size 23 i0 _ 1 16 Tryz.underlying24 hi0 hiz0 hiz1 hiz2 rfl (by decide) _ n (a.map Value.string) rfl hO.out B m cb (b.map Value.string) rfl HLB.out (unhide HR) (str_one b) (by unfold maxLen; omega) (by omega) hsz ?_; intro v5 w5 hown5 hgrow5 _)
          have HB5 := hide (below_app hB.out hO.out hgrow5)
          have HO5 : Hid (w5.ownsRow w.heap.size 23 1 v5 (n + m) ((a ++ b).map Value.string)) := hide (by rw [List.map_append]; exact hown5)
          clear hown5 hgrow5
          go_wp2_with fail
          go_roundw
          case rel => exact ⟨unhide HB5, .inr (.inr (.inl ⟨by go_num, unhide HO5⟩))⟩
          case measure => simp [intOf]
        · obtain ⟨A4, c4, rfl⟩ := owns_form hO.out
          have y0 : wr.cell? ⟨bx, ox + 2, none⟩ = some (.slice D q cd) := (hB.out.cell (p := ⟨bx, ox + 2, none⟩) hbx).trans hx2
          have HR := hide ((unhide HDD).below hB.out)
          have hsz := hB.out.size
          go_wp2_with (at_builtin; refine wpList_app _ rfl _ _ 24 rfl w.heap.size 23 i0 _ 1 16 Tryz.underlying24 hi0 hiz0 hiz1 hiz2 rfl (by decide) _ (n + m) ((a ++ b).map Value.string) rfl hO.out D q cd (d.map Value.string) rfl HLD.out (unhide HR) (str_one d) (by unfold maxLen; omega) (by omega) hsz ?_; intro v5 w5 hown5 hgrow5 _)
          have HB5 := hide (below_app hB.out hO.out hgrow5)
          have HO5 : Hid (w5.ownsRow w.heap.size 23 1 v5 (n + m + q) ((a ++ b ++ d).map Value.string)) := hide (by rw [List.map_append]; exact hown5)
          clear hown5 hgrow5
          go_wp2_with fail
          go_roundw
          case rel => exact ⟨unhide HB5, .inr (.inr (.inr ⟨by go_num, unhide HO5⟩))⟩
          case measure => simp [intOf]
        · obtain ⟨A4, c4, rfl⟩ := owns_form hO.out
          have HL : Hid (n + m + q = (a ++ b ++ d).length) := Lib.hid (by rw [List.length_append, List.length_append, HN.out, HM.out, HQ.out])
          go_wp2_with fail
          go_ret
          exact ⟨A4, c4, _, rfl, HL.out, hO.out, hB.out⟩

end Go.Proofs.YtdifpemohdnolaaGreat
namespace Go.Proofs.YtdifpemohdnolaaGreat
open Go.RowKit VM

def aroundR (fi n : Nat) (v : ByteArray) : Option (List ByteArray) :=
  if kindM v = 4 ∧ n ≤ (pt v).length then some ((pt v).take fi ++ [mkP 4 (((pt v).take ((pt v).length - (n - fi))).drop fi)] ++ (pt v).drop ((pt v).length - (n - fi))) else none
/-- a slice of a slice -/
theorem InC.sub {w : World} {A : Option Addr} {l : List ByteArray} (h : InC w A (l.map Value.string)) {lo hi d : Nat} (hd : l.length ≤ d) (h1 : hi ≤ l.length) :
    InC w (if d = lo then A else A.map (·.add (lo * 1))) (((l.take hi).drop lo).map Value.string) := by
  rw [List.map_drop, List.map_take]
  have := (h.take hi).cut (cap := d) (k := lo) (z := 1) (fun e => by
    rw [Nat.mul_one]
    refine List.drop_eq_nil_of_le ?_
    rw [List.length_take, List.length_map]; omega)
  rw [Nat.mul_one] at this ⊢
  exact this
attribute [-go_sem] Go.sliced in
set_option linter.unusedSimpArgs false in
set_option maxRecDepth 100000 in
set_option maxHeartbeats 6400000 in
theorem around_any (g gm : Nat) (p : List Cd) (pA : Option Addr) (n c : Nat) (vv : Value) (vs : List ByteArray) (es : List (ByteArray × Value)) (v : ByteArray) (hv : v.size ≤ 281474976710656) (fi nk : Nat) (hf : fi ≤ nk) (hnk : nk ≤ 1099511627776) (w : World) (hS : MS g gm p pA n c w vv vs es) :
    Calls Tryz.prog 82 #[.pointer (some ⟨g, 0, none⟩), .int .i64 (fi : Int), .int .i64 (nk : Int), .string v] w (SpPost g gm p pA n c vv vs (aroundR fi nk v) w) := by
  have HO := hide (open_any g gm p pA n c vv vs es v hv w hS)
  have HPL := Lib.hid (pt_len v)
  have HSZ := Lib.hid (pt_size48 v)
  have HE : Hid (aroundR fi nk v = if kindM v = 4 ∧ nk ≤ (pt v).length then some ((pt v).take fi ++ [mkP 4 (((pt v).take ((pt v).length - (nk - fi))).drop fi)] ++ (pt v).drop ((pt v).length - (nk - fi))) else none) := Lib.hid rfl
  generalize aroundR fi nk v = r at *
  clear hv hS
  unfold OpPost at HO
  generalize kindM v = kd at *
  generalize pt v = l at *
  go_enter Tryz.func82, Tryz.ntmps82
  go_wp2_with fail
  refine (unhide HO).mono ?_
  rintro e w1 ⟨A, m, d, es', rfl, ⟨hm, hmd⟩, hP, hS1, hst⟩
  have HS := hide hS1
  have HST := hide hst
  have HP := hide hP
  have HM := Lib.hid hm
  have HMD := Lib.hid hmd
  clear hS1 hst hP hm hmd HO
  by_cases h1 : kd = 4
  · subst h1
    by_cases h2 : nk ≤ m
    · have HH : Hid (r = some (l.take fi ++ [mkP 4 ((l.take (l.length - (nk - fi))).drop fi)] ++ l.drop (l.length - (nk - fi)))) := Lib.hid (by rw [HE.out]; exact if_pos ⟨rfl, by have := HM.out; omega⟩)
      have hl := HPL.out
      rw [← HM.out] at hl HH
      obtain ⟨k, hk⟩ : ∃ k, k = nk - fi := ⟨_, rfl⟩
      obtain ⟨la, hla⟩ : ∃ la, la = m - k := ⟨_, rfl⟩
      rw [← hk, ← hla] at HH
      have q7 : (m : Int) - ((nk : Int) - (fi : Int)) = (la : Int) := by omega
      have q1 : ¬ m < nk := by omega
      have q1b : ((m : Int) < (nk : Int)) = False := by simp; omega
      have q2 : fi ≤ la := by omega
      have q3 : la ≤ m := by omega
      have q4 : la ≤ d := by have := HMD.out; omega
      have q5 : fi ≤ d := by omega
      have q6 : fi ≤ m := by omega
      have HL := Lib.hid (HM.out)
      have HC := Lib.hid (fun w hr => pseq_any ((l.take la).drop fi) (if d = fi then A else A.map (·.add (fi * 1))) (la - fi) (d - fi) w (by rw [List.length_drop, List.length_take, ← HM.out]; omega) (by omega) (fun s hs => HSZ.out s (List.mem_of_mem_take (List.mem_of_mem_drop hs))) hr)
      clear HE hk hla h2
      go_wp2_with fail
      have hin1 := (unhide HP).in_
      refine (HC.out _ ((hin1.sub (lo := fi) (hi := la) (by have := HM.out; have := HMD.out; omega) (by have := HM.out; omega)).alloc _)).mono ?_
      rintro e w3 ⟨rfl, hb3⟩
      have HB3 := hide (((Below.refl w1.heap.size w1).alloc (Nat.le_refl _) (.cells #[.int .i64 4, .slice A m d] 115)).trans (hb3.mono (by simp)))
      have hk1 := cell_down hb3 ((Blk.new w1 115 #[.int .i64 4, .slice A m d]).cell 1)
      change w3.cell? ⟨_, 1, none⟩ = some (.slice A m d) at hk1
      obtain ⟨g5, hg5⟩ : ∃ z, Hid (w1.heap.size = z) := ⟨_, Lib.hid rfl⟩
      obtain ⟨rs, hrs⟩ : ∃ z, z = mkP 4 ((l.take la).drop fi) := ⟨_, rfl⟩
      rw [← hrs] at HH
      simp only [← hrs]
      clear hb3 hrs HC
      have HIN := hide (hin1.below (below_drew (unhide HB3)))
      have hbw := hide (below_drew (unhide HB3))
      clear HB3 hin1
      go_wp2_with fail
      simp only [hg5.out] at hk1 ⊢
      obtain ⟨A0, HA0⟩ : ∃ z, Hid (z = if d = 0 then A else A.map (·.add (0 * 1))) := ⟨_, Lib.hid rfl⟩
      obtain ⟨A1, HA1⟩ : ∃ z, Hid (z = if d = la then A else A.map (·.add (la * 1))) := ⟨_, Lib.hid rfl⟩
      have fd0 : Hid (w3.drew.cell? ⟨g5, 1, none⟩ = some (.slice A m d)) := hide hk1
      refine wp_region_noPanic ?_
      refine wp_region_held_drew (S := fun W => W.cell? ⟨g5, 1, none⟩ = some (.slice A m d)) (by kernel_rfl) fd0 (fun _ => ?_)
      generalize w3.drew = wd at *
      try simp only [Act.put, List.setIfInBounds_toArray, List.set_cons_zero, List.set_cons_succ]
      refine wpAnyH_take (i := 0) (oi := { dst := some 39, op := Op.fieldAddr 115 (Operand.tmp 10) 1, type := 0, pos := "match.go:95", after := #[], guard := none }) (v := ?_) rfl (by kernel_rfl) (by kernel_rfl) (by kernel_rfl) (fun _ _ _ h => h) (Or.inl ⟨by rfl, ?_⟩) fd0 ?_
      rotate_left 1
      · intro w hSw
        try dsimp only at hSw
        go_simp
        first
          | done
          | with_reducible rfl
          | rw [if_neg (by omega)]
      try simp only [Act.put, List.setIfInBounds_toArray, List.set_cons_zero, List.set_cons_succ]
      refine wpAnyH_take (i := 1) (oi := { dst := some 40, op := Op.load 24 (Operand.tmp 39), type := 24, pos := "match.go:95", after := #[{ on := 0, ground := Ground.data }], guard := none }) (v := ?_) rfl (by kernel_rfl) (by kernel_rfl) (by kernel_rfl) (fun _ _ _ h => h) (Or.inl ⟨by rfl, ?_⟩) fd0 ?_
      rotate_left 1
      · intro w hSw
        try dsimp only at hSw
        go_simp
        first
          | done
          | with_reducible rfl
          | rw [if_neg (by omega)]
      try simp only [Act.put, List.setIfInBounds_toArray, List.set_cons_zero, List.set_cons_succ]
      refine wpAnyH_take (i := 2) (oi := { dst := some 41, op := Op.move (Operand.tmp 1), type := 3, pos := "match.go:95", after := #[], guard := none }) (v := ?_) rfl (by kernel_rfl) (by kernel_rfl) (by kernel_rfl) (fun _ _ _ h => h) (Or.inl ⟨by rfl, ?_⟩) fd0 ?_
      rotate_left 1
      · intro w hSw
        try dsimp only at hSw
        go_simp
        first
          | done
          | with_reducible rfl
          | rw [if_neg (by omega)]
      try simp only [Act.put, List.setIfInBounds_toArray, List.set_cons_zero, List.set_cons_succ]
      refine wpAnyH_take (i := 3) (oi := { dst := some 42, op := Op.slice 24 (Operand.tmp 40) none (some (Operand.tmp 41)) none, type := 24, pos := "match.go:95", after := #[{ on := 1, ground := Ground.data }, { on := 2, ground := Ground.data }], guard := none }) (v := .slice A0 fi d) rfl (by kernel_rfl) (by kernel_rfl) (by kernel_rfl) (fun _ _ _ h => h) (Or.inl ⟨by rfl, ?_⟩) fd0 ?_
      · intro w hSw
        go_simp
        rw [HA0.out]
        rfl
      try simp only [Act.put, List.setIfInBounds_toArray, List.set_cons_zero, List.set_cons_succ]
      refine wpAnyH_take (i := 4) (oi := { dst := some 43, op := Op.move (Operand.tmp 12), type := 23, pos := "match.go:95", after := #[], guard := none }) (v := ?_) rfl (by kernel_rfl) (by kernel_rfl) (by kernel_rfl) (fun _ _ _ h => h) (Or.inl ⟨by rfl, ?_⟩) fd0 ?_
      rotate_left 1
      · intro w hSw
        try dsimp only at hSw
        go_simp
        first
          | done
          | with_reducible rfl
          | rw [if_neg (by omega)]
      try simp only [Act.put, List.setIfInBounds_toArray, List.set_cons_zero, List.set_cons_succ]
      refine wpAnyH_take (i := 6) (oi := { dst := some 45, op := Op.fieldAddr 115 (Operand.tmp 10) 1, type := 0, pos := "match.go:95", after := #[], guard := none }) (v := ?_) rfl (by kernel_rfl) (by kernel_rfl) (by kernel_rfl) (fun _ _ _ h => h) (Or.inl ⟨by rfl, ?_⟩) fd0 ?_
      rotate_left 1
      · intro w hSw
        try dsimp only at hSw
        go_simp
        first
          | done
          | with_reducible rfl
          | rw [if_neg (by omega)]
      try simp only [Act.put, List.setIfInBounds_toArray, List.set_cons_zero, List.set_cons_succ]
      refine wpAnyH_take (i := 7) (oi := { dst := some 46, op := Op.load 24 (Operand.tmp 45), type := 24, pos := "match.go:95", after := #[{ on := 6, ground := Ground.data }], guard := none }) (v := ?_) rfl (by kernel_rfl) (by kernel_rfl) (by kernel_rfl) (fun _ _ _ h => h) (Or.inl ⟨by rfl, ?_⟩) fd0 ?_
      rotate_left 1
      · intro w hSw
        try dsimp only at hSw
        go_simp
        first
          | done
          | with_reducible rfl
          | rw [if_neg (by omega)]
      try simp only [Act.put, List.setIfInBounds_toArray, List.set_cons_zero, List.set_cons_succ]
      refine wpAnyH_take (i := 8) (oi := { dst := some 47, op := Op.move (Operand.tmp 11), type := 3, pos := "match.go:95", after := #[], guard := none }) (v := ?_) rfl (by kernel_rfl) (by kernel_rfl) (by kernel_rfl) (fun _ _ _ h => h) (Or.inl ⟨by rfl, ?_⟩) fd0 ?_
      rotate_left 1
      · intro w hSw
        try dsimp only at hSw
        go_simp
        first
          | done
          | with_reducible rfl
          | rw [if_neg (by omega)]
      try simp only [Act.put, List.setIfInBounds_toArray, List.set_cons_zero, List.set_cons_succ]
      refine wpAnyH_take (i := 9) (oi := { dst := some 48, op := Op.slice 24 (Operand.tmp 46) (some (Operand.tmp 47)) none none, type := 24, pos := "match.go:95", after := #[{ on := 7, ground := Ground.data }, { on := 8, ground := Ground.data }], guard := none }) (v := .slice A1 (m - la) (d - la)) rfl (by kernel_rfl) (by kernel_rfl) (by kernel_rfl) (fun _ _ _ h => h) (Or.inl ⟨by rfl, ?_⟩) fd0 ?_
      · intro w hSw
        go_simp
        rw [HA1.out]
        rfl
      try simp only [Act.put, List.setIfInBounds_toArray, List.set_cons_zero, List.set_cons_succ]
      refine wpAnyH_ready (rs := [5]) (by kernel_rfl) (by simp) ?_
      refine AllReadyH.cons (o := { dst := some 44, op := Op.buildSlice 24 1 #[(0, Operand.tmp 43)], type := 24, pos := "match.go:95", after := #[{ on := 4, ground := Ground.data }], guard := none }) rfl (fun K hK => ?_) AllReadyH.nil
      go_simp
      try dsimp only
      have HB5 := hide ((unhide hbw).alloc (unhide hbw).size (.cells #[.string rs] 23))
      have HI5 := hide (new_in wd 23 #[.string rs])
      have HN5 := hide ((unhide HIN).alloc (.cells #[.string rs] 23))
      have fe0 := hide (cell_down ((Below.refl _ wd).alloc (Nat.le_refl _) (.cells #[.string rs] 23)) (unhide fd0))
      obtain ⟨w5, hw5⟩ : ∃ z, z = wd.alloc (.cells #[.string rs] 23) := ⟨_, rfl⟩
      rw [← hw5] at HB5 HI5 HN5 fe0 ⊢
      clear hw5
      refine hK.out _ _ fe0 (fun _ => ?_)
      clear hK K
      try simp only [Act.put, List.setIfInBounds_toArray, List.set_cons_zero, List.set_cons_succ]
      refine wpAnyH_ready (rs := [10]) (by kernel_rfl) (by simp) ?_
      refine AllReadyH.cons (o := { dst := some 49, op := Op.buildSlice 121 3 #[(0, Operand.tmp 42), (1, Operand.tmp 44), (2, Operand.tmp 48)], type := 121, pos := "match.go:95", after := #[{ on := 3, ground := Ground.data }, { on := 5, ground := Ground.data }, { on := 9, ground := Ground.data }], guard := none }) rfl (fun K hK => ?_) AllReadyH.nil
      go_simp
      try dsimp only
      have HB10 := hide ((unhide HB5).alloc (unhide HB5).size (.cells #[.slice A0 fi d, .slice (some ⟨wd.heap.size, 0, none⟩) 1 1, .slice A1 (m - la) (d - la)] 24))
      have HI10 := hide (new_in w5 24 #[.slice A0 fi d, .slice (some ⟨wd.heap.size, 0, none⟩) 1 1, .slice A1 (m - la) (d - la)])
      have HN10 := hide ((unhide HN5).alloc (.cells #[.slice A0 fi d, .slice (some ⟨wd.heap.size, 0, none⟩) 1 1, .slice A1 (m - la) (d - la)] 24))
      have HJ10 := hide ((unhide HI5).alloc (.cells #[.slice A0 fi d, .slice (some ⟨wd.heap.size, 0, none⟩) 1 1, .slice A1 (m - la) (d - la)] 24))
      have ff0 := hide (cell_down ((Below.refl _ w5).alloc (Nat.le_refl _) (.cells #[.slice A0 fi d, .slice (some ⟨wd.heap.size, 0, none⟩) 1 1, .slice A1 (m - la) (d - la)] 24)) (unhide fe0))
      obtain ⟨w10, hw10⟩ : ∃ z, z = w5.alloc (.cells #[.slice A0 fi d, .slice (some ⟨wd.heap.size, 0, none⟩) 1 1, .slice A1 (m - la) (d - la)] 24) := ⟨_, rfl⟩
      rw [← hw10] at HB10 HI10 HN10 HJ10 ff0 ⊢
      clear hw10
      refine hK.out _ _ ff0 (fun _ => ?_)
      clear hK K
      try simp only [Act.put, List.setIfInBounds_toArray, List.set_cons_zero, List.set_cons_succ]
      refine wpAnyH_ready (rs := [11]) (by kernel_rfl) (by simp) ?_
      refine AllReadyH.cons (o := { dst := some 50, op := Op.call { callee := Callee.value (Operand.func 91), args := #[Operand.tmp 49], argTypes := #[121] }, type := 24, pos := "match.go:95", after := #[{ on := 10, ground := Ground.data }], guard := none }) rfl (fun K hK => ?_) AllReadyH.nil
      go_simp
      go_at_call 91
      refine (concat3_any (l.take fi) [rs] (l.drop la) A0 (some ⟨wd.heap.size, 0, none⟩) A1 (some ⟨w5.heap.size, 0, none⟩) fi 1 (m - la) d 1 (d - la) 3 w10 (by rw [List.length_take]; have := HM.out; omega) rfl (by rw [List.length_drop]; have := HM.out; omega) (by omega) (by omega) (by omega) (by rw [HA0.out]; have := (unhide HN10).sub (lo := 0) (hi := fi) (d := d) (by have := HM.out; have := HMD.out; omega) (by have := HM.out; omega); exact this) (unhide HJ10) (by rw [HA1.out]; have := (unhide HN10).sub (lo := la) (hi := l.length) (d := d) (by have := HM.out; have := HMD.out; omega) (Nat.le_refl _); rw [List.take_length] at this; exact this) (unhide HI10)).mono ?_
      rintro e w503 ⟨B, cb, n9, rfl, hn9, ho9, hb9⟩
      have HBZ := hide ((unhide HB10).trans (hb9.mono (unhide HB10).size))
      have HO9 := hide ho9
      have HN9 := Lib.hid hn9
      clear hn9 ho9
      try dsimp only
      refine hK.out _ _ (cell_down hb9 (unhide ff0)) (fun _ => ?_)
      clear hK K
      try simp only [Act.put, List.setIfInBounds_toArray, List.set_cons_zero, List.set_cons_succ]
      refine wpAnyH_take (i := 12) (oi := { dst := some 8, op := Op.assign (Operand.tmp 50), type := 24, pos := "match.go:95", after := #[{ on := 11, ground := Ground.data }, { on := 11, ground := Ground.chain }, { on := 0, ground := Ground.phase }, { on := 1, ground := Ground.phase }, { on := 2, ground := Ground.phase }, { on := 3, ground := Ground.phase }, { on := 4, ground := Ground.phase }, { on := 5, ground := Ground.phase }, { on := 6, ground := Ground.phase }, { on := 7, ground := Ground.phase }, { on := 8, ground := Ground.phase }, { on := 9, ground := Ground.phase }, { on := 10, ground := Ground.phase }, { on := 11, ground := Ground.phase }], guard := none }) (v := ?_) rfl (by kernel_rfl) (by kernel_rfl) (by kernel_rfl) (fun _ _ _ h => h) (Or.inl ⟨by rfl, ?_⟩) (cell_down hb9 (unhide ff0)) ?_
      rotate_left 1
      · intro w hSw
        try dsimp only at hSw
        go_simp
        first
          | done
          | with_reducible rfl
          | rw [if_neg (by omega)]
      try simp only [Act.put, List.setIfInBounds_toArray, List.set_cons_zero, List.set_cons_succ]
      refine wpAnyH_take (i := 13) (oi := { dst := some 9, op := Op.assign (Operand.const (Value.bool true)), type := 4, pos := "match.go:95", after := #[{ on := 12, ground := Ground.chain }, { on := 0, ground := Ground.phase }, { on := 1, ground := Ground.phase }, { on := 2, ground := Ground.phase }, { on := 3, ground := Ground.phase }, { on := 4, ground := Ground.phase }, { on := 5, ground := Ground.phase }, { on := 6, ground := Ground.phase }, { on := 7, ground := Ground.phase }, { on := 8, ground := Ground.phase }, { on := 9, ground := Ground.phase }, { on := 10, ground := Ground.phase }, { on := 11, ground := Ground.phase }, { on := 12, ground := Ground.phase }], guard := none }) (v := ?_) rfl (by kernel_rfl) (by kernel_rfl) (by kernel_rfl) (fun _ _ _ h => h) (Or.inl ⟨by rfl, ?_⟩) (cell_down hb9 (unhide ff0)) ?_
      rotate_left 1
      · intro w hSw
        try dsimp only at hSw
        go_simp
        first
          | done
          | with_reducible rfl
          | rw [if_neg (by omega)]
      try simp only [Act.put, List.setIfInBounds_toArray, List.set_cons_zero, List.set_cons_succ]
      refine wpAnyH_done (by kernel_rfl) ?_ _
      refine NoPanic.normal ?_
      go_wp2_with fail
      go_ret2
      exact ⟨_, _, _, es', by rw [HH.out]; rfl, fun l' hl => (by rw [HH.out] at hl; cases hl; exact ⟨HN9.out, (unhide HS).new (unhide HO9) (unhide HB10).size⟩), (unhide HS).below (unhide HBZ), (unhide HST).trans (.below vv (unhide HBZ))⟩
    · have q1 : m < nk := by omega
      have HH : Hid (r = none) := Lib.hid (by rw [HE.out]; exact if_neg fun q => by have := HM.out; have := q.2; omega)
      clear HE h2
      go_wp2_with fail
      go_ret2
      exact ⟨none, 0, 0, es', by rw [HH.out]; rfl, fun l hl => (by rw [HH.out] at hl; cases hl), (unhide HS).below ((Below.refl _ _).alloc (Nat.le_refl _) _), (unhide HST).trans (.below vv ((Below.refl _ _).alloc (Nat.le_refl _) _))⟩
  · rw [if_neg (fun q => h1 q.1)] at HE
    have g1 : (kd == 4) = false := beq_eq_false_iff_ne.2 h1
    have g1b : (kd != 4) = true := by simpa using h1
    clear h1
    go_wp2_with fail
    go_ret2
    exact ⟨none, 0, 0, es', by rw [HE.out]; rfl, fun l hl => (by rw [HE.out] at hl; cases hl), (unhide HS).below ((Below.refl _ _).alloc (Nat.le_refl _) _), (unhide HST).trans (.below vv ((Below.refl _ _).alloc (Nat.le_refl _) _))⟩

end Go.Proofs.YtdifpemohdnolaaGreat
