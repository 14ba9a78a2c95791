/- The reference's Sort. Conditions: at most 1048576 strings of at most 2^48 bytes. -/
-- by tools/gen_vsc.py
import Derived.Test.YtdifpemohdnolaaGreatVsM
import Derived.Test.YtdifpemohdnolaaGreatVsI
import Derived.Test.YtdifpemohdnolaaGreatVrJ
import Derived.Laws.CopyOwn
import Derived.Laws.OwnMore
import Derived.Deep.RegionHeld3
namespace Go.Proofs.YtdifpemohdnolaaGreat
open Go.RowKit VM

theorem shift_list {xs : List Value} {z : Value} {cur : List Value} {n k : Nat} (hn : xs.length = n) (hk : k ≤ n) (h : cur.take (n + 1) = xs ++ [z]) : (splice cur (k + 1) (xs.drop k)).take (n + 1) = (xs ++ [z]).take (k + 1) ++ xs.drop k := by
  have hl : n + 1 ≤ cur.length := by
    have := congrArg List.length h
    rw [List.length_take, List.length_append, hn] at this
    simp at this
    omega
  have h1 : cur.take (k + 1) = (xs ++ [z]).take (k + 1) := by rw [← h, List.take_take]; congr 1; omega
  unfold splice
  rw [← List.append_assoc, List.take_append, List.take_of_length_le (by rw [List.length_append, List.length_take, List.length_drop]; omega), List.length_append, List.length_take, List.length_drop, h1]
  rw [show n + 1 - (min (k + 1) cur.length + (xs.length - k)) = 0 by omega, List.take_zero, List.append_nil]
theorem shift_set {xs : List Value} {z u : Value} {k : Nat} (hk : k ≤ xs.length) : ((xs ++ [z]).take (k + 1) ++ xs.drop k).set k u = xs.take k ++ u :: xs.drop k := by
  have hl : ((xs ++ [z]).take (k + 1)).length = k + 1 := by rw [List.length_take, List.length_append]; simp; omega
  rw [List.set_append_left _ _ (by rw [hl]; omega)]
  have e : (xs ++ [z]).take (k + 1) = xs.take k ++ [((xs ++ [z])[k]'(by simp; omega))] := by
    rw [List.take_add_one, List.getElem?_eq_getElem (by simp; omega), List.take_append_of_le_length hk]; rfl
  rw [e, List.set_append_right _ _ (by rw [List.length_take]; omega), List.length_take, show k - min k xs.length = 0 by omega]
  simp
theorem step_shift {P : Program} {ops : Array Oper} {o : Oper} {a : Act} {w w0 : World} {K : Act → World → Prop} {Q : Exit → Act → World → Prop} {E : Prop} (hgd : o.guard = none) (d s : Operand) (T : TypeId)
    (ho : o.op = .call { callee := .builtin .copy, args := #[d, s], argTypes := #[T, T] }) (e : TypeId) (hu : P.underlying T = some (.slice e)) (hsz : (P.info? e).map (·.size) = some 1)
    (base g c k n : Nat) (xs : List Value) (z : Value) (hx : ∀ v ∈ xs, v.oneCell' = true) (hk : k ≤ n) (hown : w.ownsRow base e 1 (.slice (some ⟨g, 0, none⟩) (n + 1) c) (n + 1) (xs ++ [z]))
    (hd : a.eval d = .slice (if c = k + 1 then some ⟨g, 0, none⟩ else some ⟨g, k + 1, none⟩) (n - k) (c - (k + 1))) (hs : a.eval s = .slice (some ⟨g, k, none⟩) (n + 1 - k) (c - k)) (hb : Below base w0 w)
    (h : ∀ w', w'.ownsRow base e 1 (.slice (some ⟨g, 0, none⟩) (n + 1) c) (n + 1) ((xs ++ [z]).take (k + 1) ++ xs.drop k) → Below base w0 w' → w'.frozen? ⟨g, k, none⟩ = false → (∃ old, w'.cell? ⟨g, k, none⟩ = some old) → K (a.put o.dst (goInt ((n - k : Nat) : Int))) w') :
    if Region.wanted o (yielded ops a.tmps) = true then Oper.wp P o a w K Q else E := by
  have hn : xs.length = n := by have := hown.1; simp at this; omega
  rcases hown.2 with ⟨q, _⟩ | ⟨g', cap, cur, q, hbg, hg, hnc, hcm, hcs, htake⟩
  · cases q
  · injection q with q1 q2 q3
    injection q1 with q1
    injection q1 with q1
    subst q1 q3
    rw [Nat.mul_one] at htake hcs
    have hcl : cur.toList.length = c := by rw [Array.length_toList]; exact hcs
    have hdl : (xs.drop k).length = n - k := by rw [List.length_drop, hn]
    refine step_copy_splice hgd d s T T ho e hu hsz _ _ (n - k) (c - (k + 1)) (n + 1 - k) (c - k) hd hs g (k + 1) cur.toList e (by simpa using hg) (xs.drop k) (by rw [hdl]; show _ = min _ _; omega) ?_ (by rw [hdl, hcl]; omega) (fun v hv => hx v (List.mem_of_mem_drop hv)) base w0 hb hbg ?_
    · intro hpos
      rw [hdl] at hpos
      refine ⟨if_neg (by omega), ⟨g, k, none⟩, rfl, fun j v hv => ?_⟩
      rw [add_at, cell_of_row w g (k + j) cur e (0, 0) hg, ← Array.getElem?_toList]
      rw [List.getElem?_drop] at hv
      have hj : k + j < n := by rw [← hn]; exact (List.getElem?_eq_some_iff.1 hv).1
      have h3 : (cur.toList.take (n + 1))[k + j]? = some v := by rw [htake, List.getElem?_append_left (by omega)]; exact hv
      rw [List.getElem?_take] at h3
      simpa [show k + j < n + 1 by omega] using h3
    · intro w' hw' hb'
      have hw2 : w'.heap[g]? = some (.cells (splice cur.toList (k + 1) (xs.drop k)).toArray e (0, 0)) := hw'
      have hls := length_splice cur.toList (k + 1) (xs.drop k) (by rw [hdl, hcl]; omega)
      rw [hdl]
      refine h w' ⟨?_, .inr ⟨g, c, _, rfl, hbg, hw2, hnc, hcm, ?_, ?_⟩⟩ hb' ?_ ?_
      · rw [List.length_append, List.length_take, List.length_append, hdl, hn]; simp; omega
      · rw [List.size_toArray, hls, hcl]; omega
      · rw [Nat.mul_one]; exact shift_list hn hk htake
      · simp [World.frozen?, hw2]
      · rw [cell_of_row w' g k _ e (0, 0) hw2]
        exact ⟨_, Array.getElem?_eq_getElem (by rw [List.size_toArray, hls, hcl]; omega)⟩
theorem map_str_take (out : List ByteArray) (x : ByteArray) (k : Nat) : (out.take k ++ x :: out.drop k).map Value.string = (out.map Value.string).take k ++ Value.string x :: (out.map Value.string).drop k := by
  rw [List.map_append, List.map_cons, List.map_take, List.map_drop]
theorem str_one (l : List ByteArray) : ∀ v ∈ l.map Value.string, v.oneCell' = true := by
  intro v hv
  obtain ⟨s, _, rfl⟩ := List.mem_map.1 hv
  rfl

end Go.Proofs.YtdifpemohdnolaaGreat
namespace Go.Proofs.YtdifpemohdnolaaGreat
open Go.RowKit VM

theorem own_in {w : World} {b n c : Nat} {e : TypeId} {A : Option Addr} {xs : List Value} (h : w.ownsRow b e 1 (.slice A n c) n xs) : InC w A xs := InC.own h
set_option linter.unusedSimpArgs false in
set_option maxRecDepth 100000 in
set_option maxHeartbeats 6400000 in
theorem rsort_any (ps : List ByteArray) (A : Option Addr) (n c : Nat) (w : World) (hn : n = ps.length) (hn1 : n ≤ 1048576) (hs : ∀ s ∈ ps, s.size ≤ 281474976710656) (hr : InC w A (ps.map Value.string)) :
    Calls Tryz.prog 32 #[.slice A n c] w fun e w' => ∃ B cb L, e = .returned (.slice B L cb) ∧ L = (sortM ps).length ∧ w'.ownsRow w.heap.size 23 1 (.slice B L cb) L ((sortM ps).map Value.string) ∧ Below w.heap.size w w' := by
  have HS := Lib.hid hs
  have HR := hide hr
  have HN := Lib.hid hn
  obtain ⟨i0, hi0, hiz0, hiz1, hiz2⟩ := info_parts val_info
  have hsz0 : (Tryz.prog.info? 23).map (·.size) = some 1 := by rw [hi0]; show some i0.size = some 1; rw [hiz1]
  clear hs hr hn
  go_enter Tryz.func32, Tryz.ntmps32
  go_wp2_with fail
  go_loopw [3, 4] (fun ov iv wr => ∃ (j L : Nat) (out : List ByteArray), iv = .int .i64 j ∧ j ≤ n ∧ L ≤ j ∧ Hid (L = out.length) ∧ Hid (wr.ownsRow w.heap.size 23 1 ov L (out.map Value.string)) ∧ Hid (Asc out) ∧ Hid (∀ u, u ∈ out ↔ u ∈ ps.take j) ∧ Hid (Below w.heap.size w wr)) (fun _ iv _ => n - (intOf iv).toNat)
  case atStart => exact ⟨0, 0, [], rfl, by omega, by omega, rfl, World.ownsRow_nil _ _ _ _, Asc.nil, fun u => by simp, Below.refl _ _⟩
  case round =>
    obtain ⟨j, L, out, rfl, hj, hLj, hL, hO, hA, hM, hB⟩ := hrel
    obtain ⟨A3, c3, rfl⟩ := owns_form hO.out
    by_cases hjn : j < n
    · obtain ⟨x, hx⟩ : ∃ x, ps[j]? = some x := ⟨ps[j]'(by have := HN.out; omega), List.getElem?_eq_getElem _⟩
      have hxs := HS.out x (List.mem_of_getElem? hx)
      have HXM : Hid (∀ u, u ∈ ps.take (j + 1) ↔ u ∈ ps.take j ∨ u = x) := Lib.hid fun u => by rw [List.take_add_one, hx]; simp
      have hos : Hid (∀ u ∈ out, u.size ≤ 281474976710656) := Lib.hid fun u hu => HS.out u (List.mem_of_mem_take ((hM.out u).1 hu))
      obtain ⟨b5, o5, hA1, hbw, hcw⟩ := at1s (unhide HR) (i := j) (u := .string x) (by rw [List.getElem?_map, hx]; rfl)
      subst hA1
      have hb5 : b5 < wr.heap.size := by have := hB.out.size; omega
      have hc5 : wr.cell? ⟨b5, o5 + j, none⟩ = some (.string x) := (hB.out.cell (p := ⟨b5, o5 + j, none⟩) hbw).trans hcw
      have HC5 := Lib.hid hc5
      have HB5L : Hid (b5 < w.heap.size) := Lib.hid hbw
      have HCW0 : Hid (w.cell? ⟨b5, o5 + j, none⟩ = some (.string x)) := Lib.hid hcw
      clear hbw hcw
      clear hx hc5
      generalize wr = wo at *
      go_wp2_with fail
      go_loopw [5] (fun kv wr => ∃ k : Nat, kv = .int .i64 k ∧ k ≤ L ∧ Hid (∀ u ∈ out.drop k, 0 < cmpM u x) ∧ Hid (wr.ownsRow w.heap.size 23 1 (.slice A3 L c3) L (out.map Value.string)) ∧ Hid (Below w.heap.size w wr) ∧ Hid (wr.cell? ⟨b5, o5 + j, none⟩ = some (.string x)) ∧ b5 < wr.heap.size) (fun kv _ => (intOf kv).toNat)
      case atStart => exact ⟨L, rfl, Nat.le_refl _, fun u h => by rw [hL.out, List.drop_length] at h; simp at h, hO.out, hB.out, HC5.out, hb5⟩
      case round =>
        obtain ⟨k, rfl, hk, hG, hO2, hB2, hC2, hb2⟩ := hrel
        clear hO hB HC5 hb5
        have HGG := Lib.hid hG.out
        have HBL : Hid (b5 < w.heap.size) := HB5L
        rcases Nat.eq_zero_or_pos k with hk0 | hk0
        · subst hk0
          clear hG
          go_wp2_with fail
          have HO6 := hide ((unhide hO2).drew)
          have HB6 := hide (below_drew (unhide hB2))
          have HC6 : Hid (wr.drew.cell? ⟨b5, o5 + j, none⟩ = some (.string x)) := hide (unhide hC2)
          clear hO2 hB2 hC2 hb2
          refine wp_region_noPanic ?_
          refine wp_region_held_drew (S := fun W => True) (by kernel_rfl) trivial (fun _ => ?_)
          generalize wr.drew = wd at *
          try simp only [Act.put, List.setIfInBounds_toArray, List.set_cons_zero, List.set_cons_succ]
          refine wpAnyH_take (i := 0) (oi := { dst := some 14, op := Op.move (Operand.tmp 5), type := 3, pos := "value.go:296", after := #[], guard := none }) (v := ?_) rfl (by kernel_rfl) (by kernel_rfl) (by kernel_rfl) (fun _ _ _ h => h) (Or.inl ⟨by rfl, ?_⟩) trivial ?_
          rotate_left 1
          · intro w hSw
            try dsimp only at hSw
            go_simp
            first
              | done
              | with_reducible rfl
              | rw [if_neg (by omega)]
          try simp only [Act.put, List.setIfInBounds_toArray, List.set_cons_zero, List.set_cons_succ]
          refine wpAnyH_take (i := 1) (oi := { dst := some 15, op := Op.binOp BinOp.gtr 3 (Operand.tmp 14) (Operand.const (Value.int IntKind.i64 0)) 3, type := 4, pos := "value.go:296", after := #[{ on := 0, ground := Ground.data }], guard := none }) (v := ?_) rfl (by kernel_rfl) (by kernel_rfl) (by kernel_rfl) (fun _ _ _ h => h) (Or.inl ⟨by rfl, ?_⟩) trivial ?_
          rotate_left 1
          · intro w hSw
            try dsimp only at hSw
            go_simp
            first
              | done
              | with_reducible rfl
              | rw [if_neg (by omega)]
          try simp only [Act.put, List.setIfInBounds_toArray, List.set_cons_zero, List.set_cons_succ]
          refine wpAnyH_take (i := 2) (oi := { dst := some 16, op := Op.move (Operand.tmp 15), type := 4, pos := "value.go:296", after := #[{ on := 1, ground := Ground.data }], guard := none }) (v := ?_) rfl (by kernel_rfl) (by kernel_rfl) (by kernel_rfl) (fun _ _ _ h => h) (Or.inl ⟨by rfl, ?_⟩) trivial ?_
          rotate_left 1
          · intro w hSw
            try dsimp only at hSw
            go_simp
            first
              | done
              | with_reducible rfl
              | rw [if_neg (by omega)]
          try simp only [Act.put, List.setIfInBounds_toArray, List.set_cons_zero, List.set_cons_succ]
          refine wpAnyH_take (i := 3) (oi := { dst := some 17, op := Op.move (Operand.tmp 3), type := 24, pos := "value.go:296", after := #[{ on := 2, ground := Ground.guard }], guard := some (2, true) }) (v := undef) rfl (by kernel_rfl) (by kernel_rfl) (by kernel_rfl) (fun _ _ _ h => h) (Or.inr ⟨by rfl, rfl⟩) trivial ?_
          try simp only [Act.put, List.setIfInBounds_toArray, List.set_cons_zero, List.set_cons_succ]
          refine wpAnyH_take (i := 4) (oi := { dst := some 18, op := Op.move (Operand.tmp 5), type := 3, pos := "value.go:296", after := #[{ on := 2, ground := Ground.guard }], guard := some (2, true) }) (v := undef) rfl (by kernel_rfl) (by kernel_rfl) (by kernel_rfl) (fun _ _ _ h => h) (Or.inr ⟨by rfl, rfl⟩) trivial ?_
          try simp only [Act.put, List.setIfInBounds_toArray, List.set_cons_zero, List.set_cons_succ]
          refine wpAnyH_take (i := 5) (oi := { dst := some 19, op := Op.binOp BinOp.sub 3 (Operand.tmp 18) (Operand.const (Value.int IntKind.i64 1)) 3, type := 3, pos := "value.go:296", after := #[{ on := 4, ground := Ground.data }, { on := 2, ground := Ground.guard }], guard := some (2, true) }) (v := undef) rfl (by kernel_rfl) (by kernel_rfl) (by kernel_rfl) (fun _ _ _ h => h) (Or.inr ⟨by rfl, rfl⟩) trivial ?_
          try simp only [Act.put, List.setIfInBounds_toArray, List.set_cons_zero, List.set_cons_succ]
          refine wpAnyH_take (i := 6) (oi := { dst := some 20, op := Op.indexAddr 24 (Operand.tmp 17) (Operand.tmp 19), type := 0, pos := "value.go:296", after := #[{ on := 3, ground := Ground.data }, { on := 5, ground := Ground.data }, { on := 2, ground := Ground.guard }], guard := some (2, true) }) (v := undef) rfl (by kernel_rfl) (by kernel_rfl) (by kernel_rfl) (fun _ _ _ h => h) (Or.inr ⟨by rfl, rfl⟩) trivial ?_
          try simp only [Act.put, List.setIfInBounds_toArray, List.set_cons_zero, List.set_cons_succ]
          refine wpAnyH_take (i := 7) (oi := { dst := some 21, op := Op.load 23 (Operand.tmp 20), type := 23, pos := "value.go:296", after := #[{ on := 6, ground := Ground.data }, { on := 2, ground := Ground.guard }], guard := some (2, true) }) (v := undef) rfl (by kernel_rfl) (by kernel_rfl) (by kernel_rfl) (fun _ _ _ h => h) (Or.inr ⟨by rfl, rfl⟩) trivial ?_
          try simp only [Act.put, List.setIfInBounds_toArray, List.set_cons_zero, List.set_cons_succ]
          refine wpAnyH_take (i := 8) (oi := { dst := some 22, op := Op.move (Operand.tmp 0), type := 24, pos := "value.go:296", after := #[{ on := 2, ground := Ground.guard }], guard := some (2, true) }) (v := undef) rfl (by kernel_rfl) (by kernel_rfl) (by kernel_rfl) (fun _ _ _ h => h) (Or.inr ⟨by rfl, rfl⟩) trivial ?_
          try simp only [Act.put, List.setIfInBounds_toArray, List.set_cons_zero, List.set_cons_succ]
          refine wpAnyH_take (i := 9) (oi := { dst := some 23, op := Op.move (Operand.tmp 4), type := 3, pos := "value.go:296", after := #[{ on := 2, ground := Ground.guard }], guard := some (2, true) }) (v := undef) rfl (by kernel_rfl) (by kernel_rfl) (by kernel_rfl) (fun _ _ _ h => h) (Or.inr ⟨by rfl, rfl⟩) trivial ?_
          try simp only [Act.put, List.setIfInBounds_toArray, List.set_cons_zero, List.set_cons_succ]
          refine wpAnyH_take (i := 10) (oi := { dst := some 24, op := Op.indexAddr 24 (Operand.tmp 22) (Operand.tmp 23), type := 0, pos := "value.go:296", after := #[{ on := 8, ground := Ground.data }, { on := 9, ground := Ground.data }, { on := 2, ground := Ground.guard }], guard := some (2, true) }) (v := undef) rfl (by kernel_rfl) (by kernel_rfl) (by kernel_rfl) (fun _ _ _ h => h) (Or.inr ⟨by rfl, rfl⟩) trivial ?_
          try simp only [Act.put, List.setIfInBounds_toArray, List.set_cons_zero, List.set_cons_succ]
          refine wpAnyH_take (i := 11) (oi := { dst := some 25, op := Op.load 23 (Operand.tmp 24), type := 23, pos := "value.go:296", after := #[{ on := 10, ground := Ground.data }, { on := 2, ground := Ground.guard }], guard := some (2, true) }) (v := undef) rfl (by kernel_rfl) (by kernel_rfl) (by kernel_rfl) (fun _ _ _ h => h) (Or.inr ⟨by rfl, rfl⟩) trivial ?_
          try simp only [Act.put, List.setIfInBounds_toArray, List.set_cons_zero, List.set_cons_succ]
          refine wpAnyH_take (i := 12) (oi := { dst := some 26, op := Op.call { callee := Callee.value (Operand.func 53), args := #[Operand.tmp 21, Operand.tmp 25], argTypes := #[23, 23] }, type := 3, pos := "value.go:296", after := #[{ on := 7, ground := Ground.data }, { on := 11, ground := Ground.data }, { on := 2, ground := Ground.chain }, { on := 2, ground := Ground.guard }], guard := some (2, true) }) (v := undef) rfl (by kernel_rfl) (by kernel_rfl) (by kernel_rfl) (fun _ _ _ h => h) (Or.inr ⟨by rfl, rfl⟩) trivial ?_
          try simp only [Act.put, List.setIfInBounds_toArray, List.set_cons_zero, List.set_cons_succ]
          refine wpAnyH_take (i := 13) (oi := { dst := some 27, op := Op.binOp BinOp.gtr 3 (Operand.tmp 26) (Operand.const (Value.int IntKind.i64 0)) 3, type := 4, pos := "value.go:296", after := #[{ on := 12, ground := Ground.data }, { on := 2, ground := Ground.guard }], guard := some (2, true) }) (v := undef) rfl (by kernel_rfl) (by kernel_rfl) (by kernel_rfl) (fun _ _ _ h => h) (Or.inr ⟨by rfl, rfl⟩) trivial ?_
          try simp only [Act.put, List.setIfInBounds_toArray, List.set_cons_zero, List.set_cons_succ]
          refine wpAnyH_take (i := 14) (oi := { dst := some 28, op := Op.pick (Operand.tmp 16) (Operand.tmp 27) (Operand.const (Value.bool false)), type := 4, pos := "value.go:296", after := #[{ on := 2, ground := Ground.data }, { on := 13, ground := Ground.data }], guard := none }) (v := ?_) rfl (by kernel_rfl) (by kernel_rfl) (by kernel_rfl) (fun _ _ _ h => h) (Or.inl ⟨by rfl, ?_⟩) trivial ?_
          rotate_left 1
          · intro w hSw
            try dsimp only at hSw
            go_simp
            first
              | done
              | with_reducible rfl
              | rw [if_neg (by omega)]
          try simp only [Act.put, List.setIfInBounds_toArray, List.set_cons_zero, List.set_cons_succ]
          refine wpAnyH_done (by kernel_rfl) ?_ _
          refine NoPanic.normal ?_
          go_wp2_with fail
          have HO9 := hide ((unhide HO6).drew)
          have HB9 := hide (below_drew (unhide HB6))
          have HCW : Hid (w.cell? ⟨b5, o5 + j, none⟩ = some (.string x)) := HCW0
          clear HO6 HB6 HC6
          refine wp_region_noPanic ?_
          refine wp_region_held_drew (S := fun W => True) (by kernel_rfl) trivial (fun _ => ?_)
          generalize wd.drew = we at *
          try simp only [Act.put, List.setIfInBounds_toArray, List.set_cons_zero, List.set_cons_succ]
          refine wpAnyH_take (i := 0) (oi := { dst := some 31, op := Op.move (Operand.tmp 5), type := 3, pos := "value.go:299", after := #[], guard := none }) (v := ?_) rfl (by kernel_rfl) (by kernel_rfl) (by kernel_rfl) (fun _ _ _ h => h) (Or.inl ⟨by rfl, ?_⟩) trivial ?_
          rotate_left 1
          · intro w hSw
            try dsimp only at hSw
            go_simp
            first
              | done
              | with_reducible rfl
              | rw [if_neg (by omega)]
          try simp only [Act.put, List.setIfInBounds_toArray, List.set_cons_zero, List.set_cons_succ]
          refine wpAnyH_take (i := 1) (oi := { dst := some 32, op := Op.binOp BinOp.gtr 3 (Operand.tmp 31) (Operand.const (Value.int IntKind.i64 0)) 3, type := 4, pos := "value.go:299", after := #[{ on := 0, ground := Ground.data }], guard := none }) (v := ?_) rfl (by kernel_rfl) (by kernel_rfl) (by kernel_rfl) (fun _ _ _ h => h) (Or.inl ⟨by rfl, ?_⟩) trivial ?_
          rotate_left 1
          · intro w hSw
            try dsimp only at hSw
            go_simp
            first
              | done
              | with_reducible rfl
              | rw [if_neg (by omega)]
          try simp only [Act.put, List.setIfInBounds_toArray, List.set_cons_zero, List.set_cons_succ]
          refine wpAnyH_take (i := 2) (oi := { dst := some 33, op := Op.move (Operand.tmp 32), type := 4, pos := "value.go:299", after := #[{ on := 1, ground := Ground.data }], guard := none }) (v := ?_) rfl (by kernel_rfl) (by kernel_rfl) (by kernel_rfl) (fun _ _ _ h => h) (Or.inl ⟨by rfl, ?_⟩) trivial ?_
          rotate_left 1
          · intro w hSw
            try dsimp only at hSw
            go_simp
            first
              | done
              | with_reducible rfl
              | rw [if_neg (by omega)]
          try simp only [Act.put, List.setIfInBounds_toArray, List.set_cons_zero, List.set_cons_succ]
          refine wpAnyH_take (i := 3) (oi := { dst := some 34, op := Op.move (Operand.tmp 3), type := 24, pos := "value.go:299", after := #[{ on := 2, ground := Ground.guard }], guard := some (2, true) }) (v := undef) rfl (by kernel_rfl) (by kernel_rfl) (by kernel_rfl) (fun _ _ _ h => h) (Or.inr ⟨by rfl, rfl⟩) trivial ?_
          try simp only [Act.put, List.setIfInBounds_toArray, List.set_cons_zero, List.set_cons_succ]
          refine wpAnyH_take (i := 4) (oi := { dst := some 35, op := Op.move (Operand.tmp 5), type := 3, pos := "value.go:299", after := #[{ on := 2, ground := Ground.guard }], guard := some (2, true) }) (v := undef) rfl (by kernel_rfl) (by kernel_rfl) (by kernel_rfl) (fun _ _ _ h => h) (Or.inr ⟨by rfl, rfl⟩) trivial ?_
          try simp only [Act.put, List.setIfInBounds_toArray, List.set_cons_zero, List.set_cons_succ]
          refine wpAnyH_take (i := 5) (oi := { dst := some 36, op := Op.binOp BinOp.sub 3 (Operand.tmp 35) (Operand.const (Value.int IntKind.i64 1)) 3, type := 3, pos := "value.go:299", after := #[{ on := 4, ground := Ground.data }, { on := 2, ground := Ground.guard }], guard := some (2, true) }) (v := undef) rfl (by kernel_rfl) (by kernel_rfl) (by kernel_rfl) (fun _ _ _ h => h) (Or.inr ⟨by rfl, rfl⟩) trivial ?_
          try simp only [Act.put, List.setIfInBounds_toArray, List.set_cons_zero, List.set_cons_succ]
          refine wpAnyH_take (i := 6) (oi := { dst := some 37, op := Op.indexAddr 24 (Operand.tmp 34) (Operand.tmp 36), type := 0, pos := "value.go:299", after := #[{ on := 3, ground := Ground.data }, { on := 5, ground := Ground.data }, { on := 2, ground := Ground.guard }], guard := some (2, true) }) (v := undef) rfl (by kernel_rfl) (by kernel_rfl) (by kernel_rfl) (fun _ _ _ h => h) (Or.inr ⟨by rfl, rfl⟩) trivial ?_
          try simp only [Act.put, List.setIfInBounds_toArray, List.set_cons_zero, List.set_cons_succ]
          refine wpAnyH_take (i := 7) (oi := { dst := some 38, op := Op.load 23 (Operand.tmp 37), type := 23, pos := "value.go:299", after := #[{ on := 6, ground := Ground.data }, { on := 2, ground := Ground.guard }], guard := some (2, true) }) (v := undef) rfl (by kernel_rfl) (by kernel_rfl) (by kernel_rfl) (fun _ _ _ h => h) (Or.inr ⟨by rfl, rfl⟩) trivial ?_
          try simp only [Act.put, List.setIfInBounds_toArray, List.set_cons_zero, List.set_cons_succ]
          refine wpAnyH_take (i := 8) (oi := { dst := some 39, op := Op.move (Operand.tmp 0), type := 24, pos := "value.go:299", after := #[{ on := 2, ground := Ground.guard }], guard := some (2, true) }) (v := undef) rfl (by kernel_rfl) (by kernel_rfl) (by kernel_rfl) (fun _ _ _ h => h) (Or.inr ⟨by rfl, rfl⟩) trivial ?_
          try simp only [Act.put, List.setIfInBounds_toArray, List.set_cons_zero, List.set_cons_succ]
          refine wpAnyH_take (i := 9) (oi := { dst := some 40, op := Op.move (Operand.tmp 4), type := 3, pos := "value.go:299", after := #[{ on := 2, ground := Ground.guard }], guard := some (2, true) }) (v := undef) rfl (by kernel_rfl) (by kernel_rfl) (by kernel_rfl) (fun _ _ _ h => h) (Or.inr ⟨by rfl, rfl⟩) trivial ?_
          try simp only [Act.put, List.setIfInBounds_toArray, List.set_cons_zero, List.set_cons_succ]
          refine wpAnyH_take (i := 10) (oi := { dst := some 41, op := Op.indexAddr 24 (Operand.tmp 39) (Operand.tmp 40), type := 0, pos := "value.go:299", after := #[{ on := 8, ground := Ground.data }, { on := 9, ground := Ground.data }, { on := 2, ground := Ground.guard }], guard := some (2, true) }) (v := undef) rfl (by kernel_rfl) (by kernel_rfl) (by kernel_rfl) (fun _ _ _ h => h) (Or.inr ⟨by rfl, rfl⟩) trivial ?_
          try simp only [Act.put, List.setIfInBounds_toArray, List.set_cons_zero, List.set_cons_succ]
          refine wpAnyH_take (i := 11) (oi := { dst := some 42, op := Op.load 23 (Operand.tmp 41), type := 23, pos := "value.go:299", after := #[{ on := 10, ground := Ground.data }, { on := 2, ground := Ground.guard }], guard := some (2, true) }) (v := undef) rfl (by kernel_rfl) (by kernel_rfl) (by kernel_rfl) (fun _ _ _ h => h) (Or.inr ⟨by rfl, rfl⟩) trivial ?_
          try simp only [Act.put, List.setIfInBounds_toArray, List.set_cons_zero, List.set_cons_succ]
          refine wpAnyH_take (i := 12) (oi := { dst := some 43, op := Op.binOp BinOp.eql 23 (Operand.tmp 38) (Operand.tmp 42) 23, type := 4, pos := "value.go:299", after := #[{ on := 7, ground := Ground.data }, { on := 11, ground := Ground.data }, { on := 2, ground := Ground.guard }], guard := some (2, true) }) (v := undef) rfl (by kernel_rfl) (by kernel_rfl) (by kernel_rfl) (fun _ _ _ h => h) (Or.inr ⟨by rfl, rfl⟩) trivial ?_
          try simp only [Act.put, List.setIfInBounds_toArray, List.set_cons_zero, List.set_cons_succ]
          refine wpAnyH_take (i := 13) (oi := { dst := some 44, op := Op.pick (Operand.tmp 33) (Operand.tmp 43) (Operand.const (Value.bool false)), type := 4, pos := "value.go:299", after := #[{ on := 2, ground := Ground.data }, { on := 12, ground := Ground.data }], guard := none }) (v := ?_) rfl (by kernel_rfl) (by kernel_rfl) (by kernel_rfl) (fun _ _ _ h => h) (Or.inl ⟨by rfl, ?_⟩) trivial ?_
          rotate_left 1
          · intro w hSw
            try dsimp only at hSw
            go_simp
            first
              | done
              | with_reducible rfl
              | rw [if_neg (by omega)]
          try simp only [Act.put, List.setIfInBounds_toArray, List.set_cons_zero, List.set_cons_succ]
          refine wpAnyH_done (by kernel_rfl) ?_ _
          refine NoPanic.normal ?_
          go_wp2_with (at_builtin; refine wpList_app _ rfl _ _ 24 rfl w.heap.size 23 i0 _ 1 16 Tryz.underlying24 hi0 hiz0 hiz1 hiz2 rfl (by decide) _ L (out.map Value.string) rfl ((unhide HO9).alloc _) (some ⟨we.heap.size, 0, none⟩) 1 1 [.string ⟨#[]⟩] rfl rfl (new_in we 23 #[.string ⟨#[]⟩]) (by intro x hx; simp at hx; subst hx; rfl) (by unfold maxLen; omega) (by omega) (by have := (unhide HB9).size; simp; omega) ?_; intro v4 w4 hown4 hgrow4 _)
          obtain ⟨g4, c4, rfl, hbg4, hg4, hnc4, -⟩ := owns_cell hown4 (by omega)
          have HB4 := hide (below_app ((unhide HB9).alloc (unhide HB9).size _) ((unhide HO9).alloc _) hgrow4)
          have hb54 : b5 ≠ g4 := fun q => by have := (unhide HBL); omega
          have HC4 : Hid (w4.cell? ⟨b5, o5 + j, none⟩ = some (.string x)) := hide ((World.cell?_of_block ((unhide HB4).block b5 (unhide HBL))).trans (unhide HCW))
          have HO4 := hide hown4
          clear hown4 hgrow4 HB9 HO9
          go_wp2_with fail
          have HBd : Hid (Below w.heap.size w w4.drew) := below_drew (unhide HB4)
          have HOd : Hid (w4.drew.ownsRow w.heap.size 23 1 (.slice (some ⟨g4, 0, none⟩) (L + 1) c4) (L + 1) (out.map Value.string ++ [.string ⟨#[]⟩])) := (unhide HO4).drew
          have HCd : Hid (w4.drew.cell? ⟨b5, o5 + j, none⟩ = some (.string x)) := hide (unhide HC4)
          clear HB4 HO4 HC4
          have hwk : IntKind.i64.wrap (1 : Int) = (1 : Int) := IntWalk.i64_in _ (by omega)
          have hwt : Int.toNat (1 : Int) = 0 + 1 := by omega
          have hkt : Int.toNat (0 : Int) = 0 := by omega
          refine wp_region_noPanic ?_
          refine wp_region_held_drew (S := fun W => True) (by kernel_rfl) trivial (fun _ => ?_)
          generalize w4.drew = wd at *
          try simp only [Act.put, List.setIfInBounds_toArray, List.set_cons_zero, List.set_cons_succ]
          refine wpAnyH_take (i := 0) (oi := { dst := some 48, op := Op.move (Operand.tmp 3), type := 24, pos := "value.go:303", after := #[], guard := none }) (v := ?_) rfl (by kernel_rfl) (by kernel_rfl) (by kernel_rfl) (fun _ _ _ h => h) (Or.inl ⟨by rfl, ?_⟩) trivial ?_
          rotate_left 1
          · intro w hSw
            try dsimp only at hSw
            go_simp
            first
              | done
              | with_reducible rfl
              | rw [if_neg (by omega)]
          try simp only [Act.put, List.setIfInBounds_toArray, List.set_cons_zero, List.set_cons_succ]
          refine wpAnyH_take (i := 1) (oi := { dst := some 49, op := Op.move (Operand.tmp 5), type := 3, pos := "value.go:303", after := #[], guard := none }) (v := ?_) rfl (by kernel_rfl) (by kernel_rfl) (by kernel_rfl) (fun _ _ _ h => h) (Or.inl ⟨by rfl, ?_⟩) trivial ?_
          rotate_left 1
          · intro w hSw
            try dsimp only at hSw
            go_simp
            first
              | done
              | with_reducible rfl
              | rw [if_neg (by omega)]
          try simp only [Act.put, List.setIfInBounds_toArray, List.set_cons_zero, List.set_cons_succ]
          refine wpAnyH_take (i := 2) (oi := { dst := some 50, op := Op.binOp BinOp.add 3 (Operand.tmp 49) (Operand.const (Value.int IntKind.i64 1)) 3, type := 3, pos := "value.go:303", after := #[{ on := 1, ground := Ground.data }], guard := none }) (v := ?_) rfl (by kernel_rfl) (by kernel_rfl) (by kernel_rfl) (fun _ _ _ h => h) (Or.inl ⟨by rfl, ?_⟩) trivial ?_
          rotate_left 1
          · intro w hSw
            try dsimp only at hSw
            go_simp
            first
              | done
              | with_reducible rfl
              | rw [if_neg (by omega)]
          try simp only [Act.put, List.setIfInBounds_toArray, List.set_cons_zero, List.set_cons_succ]
          refine wpAnyH_take (i := 3) (oi := { dst := some 51, op := Op.slice 24 (Operand.tmp 48) (some (Operand.tmp 50)) none none, type := 24, pos := "value.go:303", after := #[{ on := 0, ground := Ground.data }, { on := 2, ground := Ground.data }], guard := none }) (v := .slice (if c4 = 0 + 1 then some ⟨g4, 0, none⟩ else some ⟨g4, 0 + 1, none⟩) (L - 0) (c4 - (0 + 1))) rfl (by kernel_rfl) (by kernel_rfl) (by kernel_rfl) (fun _ _ _ h => h) (Or.inl ⟨by rfl, ?_⟩) trivial ?_
          · intro w hSw
            go_simp
            try simp only [hwk, hwt]
            try rw [if_pos (by omega)]
            try (congr 3 <;> omega)
          try simp only [Act.put, List.setIfInBounds_toArray, List.set_cons_zero, List.set_cons_succ]
          refine wpAnyH_take (i := 4) (oi := { dst := some 52, op := Op.move (Operand.tmp 3), type := 24, pos := "value.go:303", after := #[], guard := none }) (v := ?_) rfl (by kernel_rfl) (by kernel_rfl) (by kernel_rfl) (fun _ _ _ h => h) (Or.inl ⟨by rfl, ?_⟩) trivial ?_
          rotate_left 1
          · intro w hSw
            try dsimp only at hSw
            go_simp
            first
              | done
              | with_reducible rfl
              | rw [if_neg (by omega)]
          try simp only [Act.put, List.setIfInBounds_toArray, List.set_cons_zero, List.set_cons_succ]
          refine wpAnyH_take (i := 5) (oi := { dst := some 53, op := Op.move (Operand.tmp 5), type := 3, pos := "value.go:303", after := #[], guard := none }) (v := ?_) rfl (by kernel_rfl) (by kernel_rfl) (by kernel_rfl) (fun _ _ _ h => h) (Or.inl ⟨by rfl, ?_⟩) trivial ?_
          rotate_left 1
          · intro w hSw
            try dsimp only at hSw
            go_simp
            first
              | done
              | with_reducible rfl
              | rw [if_neg (by omega)]
          try simp only [Act.put, List.setIfInBounds_toArray, List.set_cons_zero, List.set_cons_succ]
          refine wpAnyH_take (i := 6) (oi := { dst := some 54, op := Op.slice 24 (Operand.tmp 52) (some (Operand.tmp 53)) none none, type := 24, pos := "value.go:303", after := #[{ on := 4, ground := Ground.data }, { on := 5, ground := Ground.data }], guard := none }) (v := .slice (some ⟨g4, 0, none⟩) (L + 1 - 0) (c4 - 0)) rfl (by kernel_rfl) (by kernel_rfl) (by kernel_rfl) (fun _ _ _ h => h) (Or.inl ⟨by rfl, ?_⟩) trivial ?_
          · intro w hSw
            go_simp
            try simp only [hkt]
            try rw [if_pos (by omega)]
            try rw [if_neg (by omega)]
            try (congr 3 <;> omega)
          try simp only [Act.put, List.setIfInBounds_toArray, List.set_cons_zero, List.set_cons_succ]
          refine wpAnyH_ready (rs := [7]) (by kernel_rfl) (by simp) ?_
          refine AllReadyH.cons (o := { dst := some 55, op := Op.call { callee := Callee.builtin Builtin.copy, args := #[Operand.tmp 51, Operand.tmp 54], argTypes := #[24, 24] }, type := 3, pos := "value.go:303", after := #[{ on := 3, ground := Ground.data }, { on := 6, ground := Ground.data }], guard := none }) rfl (fun K hK => ?_) AllReadyH.nil
          refine step_shift rfl _ _ 24 rfl 23 Tryz.underlying24 hsz0 w.heap.size g4 c4 0 L (out.map Value.string) (.string ⟨#[]⟩) (str_one out) (by omega) (unhide HOd) rfl rfl (unhide HBd) ?_
          intro w5 hown5 hb5b hfz5 hold5
          obtain ⟨old5, hold5⟩ := hold5
          have HB5 := hide hb5b
          have HO5 := hide hown5
          have HST := hide (World.ownsRow.stored (unhide HO5) 0 (.string x))
          have hc6 : w5.cell? ⟨b5, o5 + j, none⟩ = some (.string x) := (World.cell?_of_block ((unhide HB5).block b5 (unhide HBL))).trans (unhide HCW)
          clear hown5 hb5b HOd HBd HCd HO5
          refine hK.out _ _ trivial (fun _ => ?_)
          clear hK K
          try simp only [Act.put, List.setIfInBounds_toArray, List.set_cons_zero, List.set_cons_succ]
          refine wpAnyH_done (by kernel_rfl) ?_ _
          refine NoPanic.normal ?_
          go_wp2_with fail
          go_roundw
          case rel =>
            refine ⟨j + 1, L + 1, out.take 0 ++ x :: out.drop 0, by go_num, by omega, by omega, Lib.hid ?_, Lib.hid ?_, Lib.hid ?_, Lib.hid ?_, Lib.hid ?_⟩
            · have := hL.out; rw [List.length_append, List.length_cons, List.length_take, List.length_drop]; omega
            · have h1 := (unhide HST).1; rw [shift_set (by rw [List.length_map, ← hL.out]; omega), ← map_str_take] at h1; exact h1
            · exact ins_asc hA.out HGG.out (.inl rfl)
            · exact fun u => (ins_mem 0).trans ((or_congr_left (hM.out u)).trans (HXM.out u).symm)
            · exact below_grown (unhide HB5) (unhide HST).2 hbg4 (Nat.le_refl _)
          case measure => simp [intOf]; omega
        · obtain ⟨q, rfl⟩ : ∃ q, k = q + 1 := ⟨k - 1, by omega⟩
          obtain ⟨u, hu⟩ : ∃ u, out[q]? = some u := ⟨out[q]'(by have := hL.out; omega), List.getElem?_eq_getElem _⟩
          have hus := hos.out u (List.mem_of_getElem? hu)
          obtain ⟨b4, o4, hA4, hb4, hc4⟩ := at1s (own_in hO2.out) (i := q) (u := .string u) (by rw [List.getElem?_map, hu]; rfl)
          subst hA4
          have HU := Lib.hid hu
          have HCMP := Lib.hid (fun w => rcompare_any u x hus hxs w)
          obtain ⟨z, hz⟩ : ∃ z, z = cmpM u x := ⟨_, rfl⟩
          have HZ := Lib.hid hz
          rw [← hz] at HCMP
          have hw1 : IntKind.i64.wrap ((q : Int) + 1 - 1) = (q : Int) := by rw [show ((q : Int) + 1 - 1) = q by omega]; exact IntWalk.i64_in _ (by omega)
          have hw2 : ((q : Int) + 1 - 1) = q := by omega
          have hw0 : IntKind.i64.wrap (q : Int) = (q : Int) := IntWalk.i64_in _ (by omega)
          have b0 : (0 : Int) ≤ (q : Int) := by omega
          have b1 : (q : Int) < (L : Int) := by omega
          clear hu hz hos hk0
          go_wp2_with fail
          have fd0 : Hid (wr.drew.cell? ⟨b4, o4 + q, none⟩ = some (.string u)) := hc4
          have fd1 : Hid (wr.drew.cell? ⟨b5, o5 + j, none⟩ = some (.string x)) := (unhide hC2)
          have HO6 := hide ((unhide hO2).drew)
          have HB6 := hide (below_drew (unhide hB2))
          have hbd5 : b5 < wr.drew.heap.size := hb2
          have hbd4 : b4 < wr.drew.heap.size := hb4
          clear hO2 hB2 hC2 hb2 hb4 hc4
          refine wp_region_noPanic ?_
          refine wp_region_held_drew (S := fun W => W.cell? ⟨b4, o4 + q, none⟩ = some (.string u) ∧ W.cell? ⟨b5, o5 + j, none⟩ = some (.string x)) (by kernel_rfl) ⟨fd0, fd1⟩ (fun _ => ?_)
          generalize wr.drew = wd at *
          try simp only [Act.put, List.setIfInBounds_toArray, List.set_cons_zero, List.set_cons_succ]
          refine wpAnyH_take (i := 0) (oi := { dst := some 14, op := Op.move (Operand.tmp 5), type := 3, pos := "value.go:296", after := #[], guard := none }) (v := ?_) rfl (by kernel_rfl) (by kernel_rfl) (by kernel_rfl) (fun _ _ _ h => h) (Or.inl ⟨by rfl, ?_⟩) ⟨fd0, fd1⟩ ?_
          rotate_left 1
          · intro w hSw
            obtain ⟨hSw0, hSw1⟩ := hSw
            go_simp
            first
              | done
              | with_reducible rfl
              | rw [if_neg (by omega)]
          try simp only [Act.put, List.setIfInBounds_toArray, List.set_cons_zero, List.set_cons_succ]
          refine wpAnyH_take (i := 1) (oi := { dst := some 15, op := Op.binOp BinOp.gtr 3 (Operand.tmp 14) (Operand.const (Value.int IntKind.i64 0)) 3, type := 4, pos := "value.go:296", after := #[{ on := 0, ground := Ground.data }], guard := none }) (v := ?_) rfl (by kernel_rfl) (by kernel_rfl) (by kernel_rfl) (fun _ _ _ h => h) (Or.inl ⟨by rfl, ?_⟩) ⟨fd0, fd1⟩ ?_
          rotate_left 1
          · intro w hSw
            obtain ⟨hSw0, hSw1⟩ := hSw
            go_simp
            first
              | done
              | with_reducible rfl
              | rw [if_neg (by omega)]
          try simp only [Act.put, List.setIfInBounds_toArray, List.set_cons_zero, List.set_cons_succ]
          refine wpAnyH_take (i := 2) (oi := { dst := some 16, op := Op.move (Operand.tmp 15), type := 4, pos := "value.go:296", after := #[{ on := 1, ground := Ground.data }], guard := none }) (v := ?_) rfl (by kernel_rfl) (by kernel_rfl) (by kernel_rfl) (fun _ _ _ h => h) (Or.inl ⟨by rfl, ?_⟩) ⟨fd0, fd1⟩ ?_
          rotate_left 1
          · intro w hSw
            obtain ⟨hSw0, hSw1⟩ := hSw
            go_simp
            first
              | done
              | with_reducible rfl
              | rw [if_neg (by omega)]
          try simp only [Act.put, List.setIfInBounds_toArray, List.set_cons_zero, List.set_cons_succ]
          refine wpAnyH_take (i := 3) (oi := { dst := some 17, op := Op.move (Operand.tmp 3), type := 24, pos := "value.go:296", after := #[{ on := 2, ground := Ground.guard }], guard := some (2, true) }) (v := ?_) rfl (by kernel_rfl) (by kernel_rfl) (by kernel_rfl) (fun _ _ _ h => h) (Or.inl ⟨by rfl, ?_⟩) ⟨fd0, fd1⟩ ?_
          rotate_left 1
          · intro w hSw
            obtain ⟨hSw0, hSw1⟩ := hSw
            go_simp
            first
              | done
              | with_reducible rfl
              | rw [if_neg (by omega)]
          try simp only [Act.put, List.setIfInBounds_toArray, List.set_cons_zero, List.set_cons_succ]
          refine wpAnyH_take (i := 4) (oi := { dst := some 18, op := Op.move (Operand.tmp 5), type := 3, pos := "value.go:296", after := #[{ on := 2, ground := Ground.guard }], guard := some (2, true) }) (v := ?_) rfl (by kernel_rfl) (by kernel_rfl) (by kernel_rfl) (fun _ _ _ h => h) (Or.inl ⟨by rfl, ?_⟩) ⟨fd0, fd1⟩ ?_
          rotate_left 1
          · intro w hSw
            obtain ⟨hSw0, hSw1⟩ := hSw
            go_simp
            first
              | done
              | with_reducible rfl
              | rw [if_neg (by omega)]
          try simp only [Act.put, List.setIfInBounds_toArray, List.set_cons_zero, List.set_cons_succ]
          refine wpAnyH_take (i := 5) (oi := { dst := some 19, op := Op.binOp BinOp.sub 3 (Operand.tmp 18) (Operand.const (Value.int IntKind.i64 1)) 3, type := 3, pos := "value.go:296", after := #[{ on := 4, ground := Ground.data }, { on := 2, ground := Ground.guard }], guard := some (2, true) }) (v := ?_) rfl (by kernel_rfl) (by kernel_rfl) (by kernel_rfl) (fun _ _ _ h => h) (Or.inl ⟨by rfl, ?_⟩) ⟨fd0, fd1⟩ ?_
          rotate_left 1
          · intro w hSw
            obtain ⟨hSw0, hSw1⟩ := hSw
            go_simp
            first
              | done
              | with_reducible rfl
              | rw [if_neg (by omega)]
          try simp only [Act.put, List.setIfInBounds_toArray, List.set_cons_zero, List.set_cons_succ]
          refine wpAnyH_take (i := 6) (oi := { dst := some 20, op := Op.indexAddr 24 (Operand.tmp 17) (Operand.tmp 19), type := 0, pos := "value.go:296", after := #[{ on := 3, ground := Ground.data }, { on := 5, ground := Ground.data }, { on := 2, ground := Ground.guard }], guard := some (2, true) }) (v := ?_) rfl (by kernel_rfl) (by kernel_rfl) (by kernel_rfl) (fun _ _ _ h => h) (Or.inl ⟨by rfl, ?_⟩) ⟨fd0, fd1⟩ ?_
          rotate_left 1
          · intro w hSw
            obtain ⟨hSw0, hSw1⟩ := hSw
            go_simp
            first
              | done
              | with_reducible rfl
              | rw [if_neg (by omega)]
          try simp only [Act.put, List.setIfInBounds_toArray, List.set_cons_zero, List.set_cons_succ]
          refine wpAnyH_take (i := 7) (oi := { dst := some 21, op := Op.load 23 (Operand.tmp 20), type := 23, pos := "value.go:296", after := #[{ on := 6, ground := Ground.data }, { on := 2, ground := Ground.guard }], guard := some (2, true) }) (v := ?_) rfl (by kernel_rfl) (by kernel_rfl) (by kernel_rfl) (fun _ _ _ h => h) (Or.inl ⟨by rfl, ?_⟩) ⟨fd0, fd1⟩ ?_
          rotate_left 1
          · intro w hSw
            obtain ⟨hSw0, hSw1⟩ := hSw
            go_simp
            first
              | done
              | with_reducible rfl
              | rw [if_neg (by omega)]
          try simp only [Act.put, List.setIfInBounds_toArray, List.set_cons_zero, List.set_cons_succ]
          refine wpAnyH_take (i := 8) (oi := { dst := some 22, op := Op.move (Operand.tmp 0), type := 24, pos := "value.go:296", after := #[{ on := 2, ground := Ground.guard }], guard := some (2, true) }) (v := ?_) rfl (by kernel_rfl) (by kernel_rfl) (by kernel_rfl) (fun _ _ _ h => h) (Or.inl ⟨by rfl, ?_⟩) ⟨fd0, fd1⟩ ?_
          rotate_left 1
          · intro w hSw
            obtain ⟨hSw0, hSw1⟩ := hSw
            go_simp
            first
              | done
              | with_reducible rfl
              | rw [if_neg (by omega)]
          try simp only [Act.put, List.setIfInBounds_toArray, List.set_cons_zero, List.set_cons_succ]
          refine wpAnyH_take (i := 9) (oi := { dst := some 23, op := Op.move (Operand.tmp 4), type := 3, pos := "value.go:296", after := #[{ on := 2, ground := Ground.guard }], guard := some (2, true) }) (v := ?_) rfl (by kernel_rfl) (by kernel_rfl) (by kernel_rfl) (fun _ _ _ h => h) (Or.inl ⟨by rfl, ?_⟩) ⟨fd0, fd1⟩ ?_
          rotate_left 1
          · intro w hSw
            obtain ⟨hSw0, hSw1⟩ := hSw
            go_simp
            first
              | done
              | with_reducible rfl
              | rw [if_neg (by omega)]
          try simp only [Act.put, List.setIfInBounds_toArray, List.set_cons_zero, List.set_cons_succ]
          refine wpAnyH_take (i := 10) (oi := { dst := some 24, op := Op.indexAddr 24 (Operand.tmp 22) (Operand.tmp 23), type := 0, pos := "value.go:296", after := #[{ on := 8, ground := Ground.data }, { on := 9, ground := Ground.data }, { on := 2, ground := Ground.guard }], guard := some (2, true) }) (v := ?_) rfl (by kernel_rfl) (by kernel_rfl) (by kernel_rfl) (fun _ _ _ h => h) (Or.inl ⟨by rfl, ?_⟩) ⟨fd0, fd1⟩ ?_
          rotate_left 1
          · intro w hSw
            obtain ⟨hSw0, hSw1⟩ := hSw
            go_simp
            first
              | done
              | with_reducible rfl
              | rw [if_neg (by omega)]
          try simp only [Act.put, List.setIfInBounds_toArray, List.set_cons_zero, List.set_cons_succ]
          refine wpAnyH_take (i := 11) (oi := { dst := some 25, op := Op.load 23 (Operand.tmp 24), type := 23, pos := "value.go:296", after := #[{ on := 10, ground := Ground.data }, { on := 2, ground := Ground.guard }], guard := some (2, true) }) (v := ?_) rfl (by kernel_rfl) (by kernel_rfl) (by kernel_rfl) (fun _ _ _ h => h) (Or.inl ⟨by rfl, ?_⟩) ⟨fd0, fd1⟩ ?_
          rotate_left 1
          · intro w hSw
            obtain ⟨hSw0, hSw1⟩ := hSw
            go_simp
            first
              | done
              | with_reducible rfl
              | rw [if_neg (by omega)]
          try simp only [Act.put, List.setIfInBounds_toArray, List.set_cons_zero, List.set_cons_succ]
          refine wpAnyH_ready (rs := [12]) (by kernel_rfl) (by simp) ?_
          refine AllReadyH.cons (o := { dst := some 26, op := Op.call { callee := Callee.value (Operand.func 53), args := #[Operand.tmp 21, Operand.tmp 25], argTypes := #[23, 23] }, type := 3, pos := "value.go:296", after := #[{ on := 7, ground := Ground.data }, { on := 11, ground := Ground.data }, { on := 2, ground := Ground.chain }, { on := 2, ground := Ground.guard }], guard := some (2, true) }) rfl (fun K hK => ?_) AllReadyH.nil
          go_simp
          go_at_call 53
          refine (HCMP.out _).mono ?_
          rintro e w502 ⟨rfl, hb502⟩
          have fe0 := hide ((hb502.cell (p := ⟨b4, o4 + q, none⟩) hbd4).trans fd0.out)
          have fe1 := hide ((hb502.cell (p := ⟨b5, o5 + j, none⟩) hbd5).trans fd1.out)
          have HO7 := hide (owns_below (unhide HO6) hb502)
          have HB7 := hide ((unhide HB6).trans (hb502.mono (unhide HB6).size))
          have hbe5 : b5 < w502.heap.size := by have := hb502.size; omega
          have hbe4 : b4 < w502.heap.size := by have := hb502.size; omega
          clear hb502 HO6 HB6 hbd5 hbd4
          generalize w502 = w7 at *
          try dsimp only
          refine hK.out _ _ ⟨(unhide fe0), (unhide fe1)⟩ (fun _ => ?_)
          clear hK K
          try simp only [Act.put, List.setIfInBounds_toArray, List.set_cons_zero, List.set_cons_succ]
          refine wpAnyH_take (i := 13) (oi := { dst := some 27, op := Op.binOp BinOp.gtr 3 (Operand.tmp 26) (Operand.const (Value.int IntKind.i64 0)) 3, type := 4, pos := "value.go:296", after := #[{ on := 12, ground := Ground.data }, { on := 2, ground := Ground.guard }], guard := some (2, true) }) (v := ?_) rfl (by kernel_rfl) (by kernel_rfl) (by kernel_rfl) (fun _ _ _ h => h) (Or.inl ⟨by rfl, ?_⟩) ⟨(unhide fe0), (unhide fe1)⟩ ?_
          rotate_left 1
          · intro w hSw
            obtain ⟨hSw0, hSw1⟩ := hSw
            go_simp
            first
              | done
              | with_reducible rfl
              | rw [if_neg (by omega)]
          try simp only [Act.put, List.setIfInBounds_toArray, List.set_cons_zero, List.set_cons_succ]
          refine wpAnyH_take (i := 14) (oi := { dst := some 28, op := Op.pick (Operand.tmp 16) (Operand.tmp 27) (Operand.const (Value.bool false)), type := 4, pos := "value.go:296", after := #[{ on := 2, ground := Ground.data }, { on := 13, ground := Ground.data }], guard := none }) (v := ?_) rfl (by kernel_rfl) (by kernel_rfl) (by kernel_rfl) (fun _ _ _ h => h) (Or.inl ⟨by rfl, ?_⟩) ⟨(unhide fe0), (unhide fe1)⟩ ?_
          rotate_left 1
          · intro w hSw
            obtain ⟨hSw0, hSw1⟩ := hSw
            go_simp
            first
              | done
              | with_reducible rfl
              | rw [if_neg (by omega)]
          try simp only [Act.put, List.setIfInBounds_toArray, List.set_cons_zero, List.set_cons_succ]
          refine wpAnyH_done (by kernel_rfl) ?_ _
          refine NoPanic.normal ?_
          by_cases hzp : 0 < z
          · have HG2 : Hid (∀ v ∈ out.drop q, 0 < cmpM v x) := Lib.hid fun v hv => by
              have hq := (List.getElem?_eq_some_iff.1 HU.out).1
              rw [List.drop_eq_getElem_cons hq] at hv
              rcases List.mem_cons.1 hv with rfl | hv
              · have h1 := HU.out; rw [List.getElem?_eq_getElem hq] at h1; rw [Option.some.inj h1, ← HZ.out]; exact hzp
              · exact HGG.out v hv
            clear HGG hG
            go_wp2_with fail
            go_roundw
            case rel => exact ⟨q, by go_num, by omega, HG2.out, unhide HO7, unhide HB7, unhide fe1, hbe5⟩
            case measure => simp [intOf]
          · go_wp2_with fail
            by_cases hux : u = x
            · subst hux
              have hee : (u.toList == u.toList) = true := beq_self_eq_true _
              have fd0 : Hid (w7.drew.cell? ⟨b4, o4 + q, none⟩ = some (.string u)) := (unhide fe0)
              have fd1 : Hid (w7.drew.cell? ⟨b5, o5 + j, none⟩ = some (.string u)) := (unhide fe1)
              have HO9 := hide ((unhide HO7).drew)
              have HB9 := hide (below_drew (unhide HB7))
              have HCW : Hid (w.cell? ⟨b5, o5 + j, none⟩ = some (.string u)) := HCW0
              clear HO7 HB7
              refine wp_region_noPanic ?_
              refine wp_region_held_drew (S := fun W => W.cell? ⟨b4, o4 + q, none⟩ = some (.string u) ∧ W.cell? ⟨b5, o5 + j, none⟩ = some (.string u)) (by kernel_rfl) ⟨fd0, fd1⟩ (fun _ => ?_)
              generalize w7.drew = we at *
              try simp only [Act.put, List.setIfInBounds_toArray, List.set_cons_zero, List.set_cons_succ]
              refine wpAnyH_take (i := 0) (oi := { dst := some 31, op := Op.move (Operand.tmp 5), type := 3, pos := "value.go:299", after := #[], guard := none }) (v := ?_) rfl (by kernel_rfl) (by kernel_rfl) (by kernel_rfl) (fun _ _ _ h => h) (Or.inl ⟨by rfl, ?_⟩) ⟨fd0, fd1⟩ ?_
              rotate_left 1
              · intro w hSw
                obtain ⟨hSw0, hSw1⟩ := hSw
                go_simp
                first
                  | done
                  | with_reducible rfl
                  | rw [if_neg (by omega)]
              try simp only [Act.put, List.setIfInBounds_toArray, List.set_cons_zero, List.set_cons_succ]
              refine wpAnyH_take (i := 1) (oi := { dst := some 32, op := Op.binOp BinOp.gtr 3 (Operand.tmp 31) (Operand.const (Value.int IntKind.i64 0)) 3, type := 4, pos := "value.go:299", after := #[{ on := 0, ground := Ground.data }], guard := none }) (v := ?_) rfl (by kernel_rfl) (by kernel_rfl) (by kernel_rfl) (fun _ _ _ h => h) (Or.inl ⟨by rfl, ?_⟩) ⟨fd0, fd1⟩ ?_
              rotate_left 1
              · intro w hSw
                obtain ⟨hSw0, hSw1⟩ := hSw
                go_simp
                first
                  | done
                  | with_reducible rfl
                  | rw [if_neg (by omega)]
              try simp only [Act.put, List.setIfInBounds_toArray, List.set_cons_zero, List.set_cons_succ]
              refine wpAnyH_take (i := 2) (oi := { dst := some 33, op := Op.move (Operand.tmp 32), type := 4, pos := "value.go:299", after := #[{ on := 1, ground := Ground.data }], guard := none }) (v := ?_) rfl (by kernel_rfl) (by kernel_rfl) (by kernel_rfl) (fun _ _ _ h => h) (Or.inl ⟨by rfl, ?_⟩) ⟨fd0, fd1⟩ ?_
              rotate_left 1
              · intro w hSw
                obtain ⟨hSw0, hSw1⟩ := hSw
                go_simp
                first
                  | done
                  | with_reducible rfl
                  | rw [if_neg (by omega)]
              try simp only [Act.put, List.setIfInBounds_toArray, List.set_cons_zero, List.set_cons_succ]
              refine wpAnyH_take (i := 3) (oi := { dst := some 34, op := Op.move (Operand.tmp 3), type := 24, pos := "value.go:299", after := #[{ on := 2, ground := Ground.guard }], guard := some (2, true) }) (v := ?_) rfl (by kernel_rfl) (by kernel_rfl) (by kernel_rfl) (fun _ _ _ h => h) (Or.inl ⟨by rfl, ?_⟩) ⟨fd0, fd1⟩ ?_
              rotate_left 1
              · intro w hSw
                obtain ⟨hSw0, hSw1⟩ := hSw
                go_simp
                first
                  | done
                  | with_reducible rfl
                  | rw [if_neg (by omega)]
              try simp only [Act.put, List.setIfInBounds_toArray, List.set_cons_zero, List.set_cons_succ]
              refine wpAnyH_take (i := 4) (oi := { dst := some 35, op := Op.move (Operand.tmp 5), type := 3, pos := "value.go:299", after := #[{ on := 2, ground := Ground.guard }], guard := some (2, true) }) (v := ?_) rfl (by kernel_rfl) (by kernel_rfl) (by kernel_rfl) (fun _ _ _ h => h) (Or.inl ⟨by rfl, ?_⟩) ⟨fd0, fd1⟩ ?_
              rotate_left 1
              · intro w hSw
                obtain ⟨hSw0, hSw1⟩ := hSw
                go_simp
                first
                  | done
                  | with_reducible rfl
                  | rw [if_neg (by omega)]
              try simp only [Act.put, List.setIfInBounds_toArray, List.set_cons_zero, List.set_cons_succ]
              refine wpAnyH_take (i := 5) (oi := { dst := some 36, op := Op.binOp BinOp.sub 3 (Operand.tmp 35) (Operand.const (Value.int IntKind.i64 1)) 3, type := 3, pos := "value.go:299", after := #[{ on := 4, ground := Ground.data }, { on := 2, ground := Ground.guard }], guard := some (2, true) }) (v := ?_) rfl (by kernel_rfl) (by kernel_rfl) (by kernel_rfl) (fun _ _ _ h => h) (Or.inl ⟨by rfl, ?_⟩) ⟨fd0, fd1⟩ ?_
              rotate_left 1
              · intro w hSw
                obtain ⟨hSw0, hSw1⟩ := hSw
                go_simp
                first
                  | done
                  | with_reducible rfl
                  | rw [if_neg (by omega)]
              try simp only [Act.put, List.setIfInBounds_toArray, List.set_cons_zero, List.set_cons_succ]
              refine wpAnyH_take (i := 6) (oi := { dst := some 37, op := Op.indexAddr 24 (Operand.tmp 34) (Operand.tmp 36), type := 0, pos := "value.go:299", after := #[{ on := 3, ground := Ground.data }, { on := 5, ground := Ground.data }, { on := 2, ground := Ground.guard }], guard := some (2, true) }) (v := ?_) rfl (by kernel_rfl) (by kernel_rfl) (by kernel_rfl) (fun _ _ _ h => h) (Or.inl ⟨by rfl, ?_⟩) ⟨fd0, fd1⟩ ?_
              rotate_left 1
              · intro w hSw
                obtain ⟨hSw0, hSw1⟩ := hSw
                go_simp
                first
                  | done
                  | with_reducible rfl
                  | rw [if_neg (by omega)]
              try simp only [Act.put, List.setIfInBounds_toArray, List.set_cons_zero, List.set_cons_succ]
              refine wpAnyH_take (i := 7) (oi := { dst := some 38, op := Op.load 23 (Operand.tmp 37), type := 23, pos := "value.go:299", after := #[{ on := 6, ground := Ground.data }, { on := 2, ground := Ground.guard }], guard := some (2, true) }) (v := ?_) rfl (by kernel_rfl) (by kernel_rfl) (by kernel_rfl) (fun _ _ _ h => h) (Or.inl ⟨by rfl, ?_⟩) ⟨fd0, fd1⟩ ?_
              rotate_left 1
              · intro w hSw
                obtain ⟨hSw0, hSw1⟩ := hSw
                go_simp
                first
                  | done
                  | with_reducible rfl
                  | rw [if_neg (by omega)]
              try simp only [Act.put, List.setIfInBounds_toArray, List.set_cons_zero, List.set_cons_succ]
              refine wpAnyH_take (i := 8) (oi := { dst := some 39, op := Op.move (Operand.tmp 0), type := 24, pos := "value.go:299", after := #[{ on := 2, ground := Ground.guard }], guard := some (2, true) }) (v := ?_) rfl (by kernel_rfl) (by kernel_rfl) (by kernel_rfl) (fun _ _ _ h => h) (Or.inl ⟨by rfl, ?_⟩) ⟨fd0, fd1⟩ ?_
              rotate_left 1
              · intro w hSw
                obtain ⟨hSw0, hSw1⟩ := hSw
                go_simp
                first
                  | done
                  | with_reducible rfl
                  | rw [if_neg (by omega)]
              try simp only [Act.put, List.setIfInBounds_toArray, List.set_cons_zero, List.set_cons_succ]
              refine wpAnyH_take (i := 9) (oi := { dst := some 40, op := Op.move (Operand.tmp 4), type := 3, pos := "value.go:299", after := #[{ on := 2, ground := Ground.guard }], guard := some (2, true) }) (v := ?_) rfl (by kernel_rfl) (by kernel_rfl) (by kernel_rfl) (fun _ _ _ h => h) (Or.inl ⟨by rfl, ?_⟩) ⟨fd0, fd1⟩ ?_
              rotate_left 1
              · intro w hSw
                obtain ⟨hSw0, hSw1⟩ := hSw
                go_simp
                first
                  | done
                  | with_reducible rfl
                  | rw [if_neg (by omega)]
              try simp only [Act.put, List.setIfInBounds_toArray, List.set_cons_zero, List.set_cons_succ]
              refine wpAnyH_take (i := 10) (oi := { dst := some 41, op := Op.indexAddr 24 (Operand.tmp 39) (Operand.tmp 40), type := 0, pos := "value.go:299", after := #[{ on := 8, ground := Ground.data }, { on := 9, ground := Ground.data }, { on := 2, ground := Ground.guard }], guard := some (2, true) }) (v := ?_) rfl (by kernel_rfl) (by kernel_rfl) (by kernel_rfl) (fun _ _ _ h => h) (Or.inl ⟨by rfl, ?_⟩) ⟨fd0, fd1⟩ ?_
              rotate_left 1
              · intro w hSw
                obtain ⟨hSw0, hSw1⟩ := hSw
                go_simp
                first
                  | done
                  | with_reducible rfl
                  | rw [if_neg (by omega)]
              try simp only [Act.put, List.setIfInBounds_toArray, List.set_cons_zero, List.set_cons_succ]
              refine wpAnyH_take (i := 11) (oi := { dst := some 42, op := Op.load 23 (Operand.tmp 41), type := 23, pos := "value.go:299", after := #[{ on := 10, ground := Ground.data }, { on := 2, ground := Ground.guard }], guard := some (2, true) }) (v := ?_) rfl (by kernel_rfl) (by kernel_rfl) (by kernel_rfl) (fun _ _ _ h => h) (Or.inl ⟨by rfl, ?_⟩) ⟨fd0, fd1⟩ ?_
              rotate_left 1
              · intro w hSw
                obtain ⟨hSw0, hSw1⟩ := hSw
                go_simp
                first
                  | done
                  | with_reducible rfl
                  | rw [if_neg (by omega)]
              try simp only [Act.put, List.setIfInBounds_toArray, List.set_cons_zero, List.set_cons_succ]
              refine wpAnyH_take (i := 12) (oi := { dst := some 43, op := Op.binOp BinOp.eql 23 (Operand.tmp 38) (Operand.tmp 42) 23, type := 4, pos := "value.go:299", after := #[{ on := 7, ground := Ground.data }, { on := 11, ground := Ground.data }, { on := 2, ground := Ground.guard }], guard := some (2, true) }) (v := ?_) rfl (by kernel_rfl) (by kernel_rfl) (by kernel_rfl) (fun _ _ _ h => h) (Or.inl ⟨by rfl, ?_⟩) ⟨fd0, fd1⟩ ?_
              rotate_left 1
              · intro w hSw
                obtain ⟨hSw0, hSw1⟩ := hSw
                go_simp
                first
                  | done
                  | with_reducible rfl
                  | rw [if_neg (by omega)]
              try simp only [Act.put, List.setIfInBounds_toArray, List.set_cons_zero, List.set_cons_succ]
              refine wpAnyH_take (i := 13) (oi := { dst := some 44, op := Op.pick (Operand.tmp 33) (Operand.tmp 43) (Operand.const (Value.bool false)), type := 4, pos := "value.go:299", after := #[{ on := 2, ground := Ground.data }, { on := 12, ground := Ground.data }], guard := none }) (v := ?_) rfl (by kernel_rfl) (by kernel_rfl) (by kernel_rfl) (fun _ _ _ h => h) (Or.inl ⟨by rfl, ?_⟩) ⟨fd0, fd1⟩ ?_
              rotate_left 1
              · intro w hSw
                obtain ⟨hSw0, hSw1⟩ := hSw
                go_simp
                first
                  | done
                  | with_reducible rfl
                  | rw [if_neg (by omega)]
              try simp only [Act.put, List.setIfInBounds_toArray, List.set_cons_zero, List.set_cons_succ]
              refine wpAnyH_done (by kernel_rfl) ?_ _
              refine NoPanic.normal ?_
              go_wp2_with fail
              go_roundw
              case rel => exact ⟨j + 1, L, out, by go_num, by omega, by omega, hL.out, unhide HO9, hA.out, fun v => by rw [HXM.out, ← hM.out]; exact ⟨.inl, fun h => h.elim id fun h => h ▸ List.mem_of_getElem? HU.out⟩, unhide HB9⟩
              case measure => simp [intOf]; omega
            · have hee : (u.toList == x.toList) = false := ne_list hux
              have HLT : Hid (q + 1 = 0 ∨ ∃ u, out[q + 1 - 1]? = some u ∧ cmpM u x < 0) := Lib.hid (.inr ⟨u, HU.out, by have h1 := HZ.out; have h2 : cmpM u x ≠ 0 := fun e => hux ((cmpM_zero _ _).1 e); omega⟩)
              clear hux
              have fd0 : Hid (w7.drew.cell? ⟨b4, o4 + q, none⟩ = some (.string u)) := (unhide fe0)
              have fd1 : Hid (w7.drew.cell? ⟨b5, o5 + j, none⟩ = some (.string x)) := (unhide fe1)
              have HO9 := hide ((unhide HO7).drew)
              have HB9 := hide (below_drew (unhide HB7))
              have HCW : Hid (w.cell? ⟨b5, o5 + j, none⟩ = some (.string x)) := HCW0
              clear HO7 HB7
              refine wp_region_noPanic ?_
              refine wp_region_held_drew (S := fun W => W.cell? ⟨b4, o4 + q, none⟩ = some (.string u) ∧ W.cell? ⟨b5, o5 + j, none⟩ = some (.string x)) (by kernel_rfl) ⟨fd0, fd1⟩ (fun _ => ?_)
              generalize w7.drew = we at *
              try simp only [Act.put, List.setIfInBounds_toArray, List.set_cons_zero, List.set_cons_succ]
              refine wpAnyH_take (i := 0) (oi := { dst := some 31, op := Op.move (Operand.tmp 5), type := 3, pos := "value.go:299", after := #[], guard := none }) (v := ?_) rfl (by kernel_rfl) (by kernel_rfl) (by kernel_rfl) (fun _ _ _ h => h) (Or.inl ⟨by rfl, ?_⟩) ⟨fd0, fd1⟩ ?_
              rotate_left 1
              · intro w hSw
                obtain ⟨hSw0, hSw1⟩ := hSw
                go_simp
                first
                  | done
                  | with_reducible rfl
                  | rw [if_neg (by omega)]
              try simp only [Act.put, List.setIfInBounds_toArray, List.set_cons_zero, List.set_cons_succ]
              refine wpAnyH_take (i := 1) (oi := { dst := some 32, op := Op.binOp BinOp.gtr 3 (Operand.tmp 31) (Operand.const (Value.int IntKind.i64 0)) 3, type := 4, pos := "value.go:299", after := #[{ on := 0, ground := Ground.data }], guard := none }) (v := ?_) rfl (by kernel_rfl) (by kernel_rfl) (by kernel_rfl) (fun _ _ _ h => h) (Or.inl ⟨by rfl, ?_⟩) ⟨fd0, fd1⟩ ?_
              rotate_left 1
              · intro w hSw
                obtain ⟨hSw0, hSw1⟩ := hSw
                go_simp
                first
                  | done
                  | with_reducible rfl
                  | rw [if_neg (by omega)]
              try simp only [Act.put, List.setIfInBounds_toArray, List.set_cons_zero, List.set_cons_succ]
              refine wpAnyH_take (i := 2) (oi := { dst := some 33, op := Op.move (Operand.tmp 32), type := 4, pos := "value.go:299", after := #[{ on := 1, ground := Ground.data }], guard := none }) (v := ?_) rfl (by kernel_rfl) (by kernel_rfl) (by kernel_rfl) (fun _ _ _ h => h) (Or.inl ⟨by rfl, ?_⟩) ⟨fd0, fd1⟩ ?_
              rotate_left 1
              · intro w hSw
                obtain ⟨hSw0, hSw1⟩ := hSw
                go_simp
                first
                  | done
                  | with_reducible rfl
                  | rw [if_neg (by omega)]
              try simp only [Act.put, List.setIfInBounds_toArray, List.set_cons_zero, List.set_cons_succ]
              refine wpAnyH_take (i := 3) (oi := { dst := some 34, op := Op.move (Operand.tmp 3), type := 24, pos := "value.go:299", after := #[{ on := 2, ground := Ground.guard }], guard := some (2, true) }) (v := ?_) rfl (by kernel_rfl) (by kernel_rfl) (by kernel_rfl) (fun _ _ _ h => h) (Or.inl ⟨by rfl, ?_⟩) ⟨fd0, fd1⟩ ?_
              rotate_left 1
              · intro w hSw
                obtain ⟨hSw0, hSw1⟩ := hSw
                go_simp
                first
                  | done
                  | with_reducible rfl
                  | rw [if_neg (by omega)]
              try simp only [Act.put, List.setIfInBounds_toArray, List.set_cons_zero, List.set_cons_succ]
              refine wpAnyH_take (i := 4) (oi := { dst := some 35, op := Op.move (Operand.tmp 5), type := 3, pos := "value.go:299", after := #[{ on := 2, ground := Ground.guard }], guard := some (2, true) }) (v := ?_) rfl (by kernel_rfl) (by kernel_rfl) (by kernel_rfl) (fun _ _ _ h => h) (Or.inl ⟨by rfl, ?_⟩) ⟨fd0, fd1⟩ ?_
              rotate_left 1
              · intro w hSw
                obtain ⟨hSw0, hSw1⟩ := hSw
                go_simp
                first
                  | done
                  | with_reducible rfl
                  | rw [if_neg (by omega)]
              try simp only [Act.put, List.setIfInBounds_toArray, List.set_cons_zero, List.set_cons_succ]
              refine wpAnyH_take (i := 5) (oi := { dst := some 36, op := Op.binOp BinOp.sub 3 (Operand.tmp 35) (Operand.const (Value.int IntKind.i64 1)) 3, type := 3, pos := "value.go:299", after := #[{ on := 4, ground := Ground.data }, { on := 2, ground := Ground.guard }], guard := some (2, true) }) (v := ?_) rfl (by kernel_rfl) (by kernel_rfl) (by kernel_rfl) (fun _ _ _ h => h) (Or.inl ⟨by rfl, ?_⟩) ⟨fd0, fd1⟩ ?_
              rotate_left 1
              · intro w hSw
                obtain ⟨hSw0, hSw1⟩ := hSw
                go_simp
                first
                  | done
                  | with_reducible rfl
                  | rw [if_neg (by omega)]
              try simp only [Act.put, List.setIfInBounds_toArray, List.set_cons_zero, List.set_cons_succ]
              refine wpAnyH_take (i := 6) (oi := { dst := some 37, op := Op.indexAddr 24 (Operand.tmp 34) (Operand.tmp 36), type := 0, pos := "value.go:299", after := #[{ on := 3, ground := Ground.data }, { on := 5, ground := Ground.data }, { on := 2, ground := Ground.guard }], guard := some (2, true) }) (v := ?_) rfl (by kernel_rfl) (by kernel_rfl) (by kernel_rfl) (fun _ _ _ h => h) (Or.inl ⟨by rfl, ?_⟩) ⟨fd0, fd1⟩ ?_
              rotate_left 1
              · intro w hSw
                obtain ⟨hSw0, hSw1⟩ := hSw
                go_simp
                first
                  | done
                  | with_reducible rfl
                  | rw [if_neg (by omega)]
              try simp only [Act.put, List.setIfInBounds_toArray, List.set_cons_zero, List.set_cons_succ]
              refine wpAnyH_take (i := 7) (oi := { dst := some 38, op := Op.load 23 (Operand.tmp 37), type := 23, pos := "value.go:299", after := #[{ on := 6, ground := Ground.data }, { on := 2, ground := Ground.guard }], guard := some (2, true) }) (v := ?_) rfl (by kernel_rfl) (by kernel_rfl) (by kernel_rfl) (fun _ _ _ h => h) (Or.inl ⟨by rfl, ?_⟩) ⟨fd0, fd1⟩ ?_
              rotate_left 1
              · intro w hSw
                obtain ⟨hSw0, hSw1⟩ := hSw
                go_simp
                first
                  | done
                  | with_reducible rfl
                  | rw [if_neg (by omega)]
              try simp only [Act.put, List.setIfInBounds_toArray, List.set_cons_zero, List.set_cons_succ]
              refine wpAnyH_take (i := 8) (oi := { dst := some 39, op := Op.move (Operand.tmp 0), type := 24, pos := "value.go:299", after := #[{ on := 2, ground := Ground.guard }], guard := some (2, true) }) (v := ?_) rfl (by kernel_rfl) (by kernel_rfl) (by kernel_rfl) (fun _ _ _ h => h) (Or.inl ⟨by rfl, ?_⟩) ⟨fd0, fd1⟩ ?_
              rotate_left 1
              · intro w hSw
                obtain ⟨hSw0, hSw1⟩ := hSw
                go_simp
                first
                  | done
                  | with_reducible rfl
                  | rw [if_neg (by omega)]
              try simp only [Act.put, List.setIfInBounds_toArray, List.set_cons_zero, List.set_cons_succ]
              refine wpAnyH_take (i := 9) (oi := { dst := some 40, op := Op.move (Operand.tmp 4), type := 3, pos := "value.go:299", after := #[{ on := 2, ground := Ground.guard }], guard := some (2, true) }) (v := ?_) rfl (by kernel_rfl) (by kernel_rfl) (by kernel_rfl) (fun _ _ _ h => h) (Or.inl ⟨by rfl, ?_⟩) ⟨fd0, fd1⟩ ?_
              rotate_left 1
              · intro w hSw
                obtain ⟨hSw0, hSw1⟩ := hSw
                go_simp
                first
                  | done
                  | with_reducible rfl
                  | rw [if_neg (by omega)]
              try simp only [Act.put, List.setIfInBounds_toArray, List.set_cons_zero, List.set_cons_succ]
              refine wpAnyH_take (i := 10) (oi := { dst := some 41, op := Op.indexAddr 24 (Operand.tmp 39) (Operand.tmp 40), type := 0, pos := "value.go:299", after := #[{ on := 8, ground := Ground.data }, { on := 9, ground := Ground.data }, { on := 2, ground := Ground.guard }], guard := some (2, true) }) (v := ?_) rfl (by kernel_rfl) (by kernel_rfl) (by kernel_rfl) (fun _ _ _ h => h) (Or.inl ⟨by rfl, ?_⟩) ⟨fd0, fd1⟩ ?_
              rotate_left 1
              · intro w hSw
                obtain ⟨hSw0, hSw1⟩ := hSw
                go_simp
                first
                  | done
                  | with_reducible rfl
                  | rw [if_neg (by omega)]
              try simp only [Act.put, List.setIfInBounds_toArray, List.set_cons_zero, List.set_cons_succ]
              refine wpAnyH_take (i := 11) (oi := { dst := some 42, op := Op.load 23 (Operand.tmp 41), type := 23, pos := "value.go:299", after := #[{ on := 10, ground := Ground.data }, { on := 2, ground := Ground.guard }], guard := some (2, true) }) (v := ?_) rfl (by kernel_rfl) (by kernel_rfl) (by kernel_rfl) (fun _ _ _ h => h) (Or.inl ⟨by rfl, ?_⟩) ⟨fd0, fd1⟩ ?_
              rotate_left 1
              · intro w hSw
                obtain ⟨hSw0, hSw1⟩ := hSw
                go_simp
                first
                  | done
                  | with_reducible rfl
                  | rw [if_neg (by omega)]
              try simp only [Act.put, List.setIfInBounds_toArray, List.set_cons_zero, List.set_cons_succ]
              refine wpAnyH_take (i := 12) (oi := { dst := some 43, op := Op.binOp BinOp.eql 23 (Operand.tmp 38) (Operand.tmp 42) 23, type := 4, pos := "value.go:299", after := #[{ on := 7, ground := Ground.data }, { on := 11, ground := Ground.data }, { on := 2, ground := Ground.guard }], guard := some (2, true) }) (v := ?_) rfl (by kernel_rfl) (by kernel_rfl) (by kernel_rfl) (fun _ _ _ h => h) (Or.inl ⟨by rfl, ?_⟩) ⟨fd0, fd1⟩ ?_
              rotate_left 1
              · intro w hSw
                obtain ⟨hSw0, hSw1⟩ := hSw
                go_simp
                first
                  | done
                  | with_reducible rfl
                  | rw [if_neg (by omega)]
              try simp only [Act.put, List.setIfInBounds_toArray, List.set_cons_zero, List.set_cons_succ]
              refine wpAnyH_take (i := 13) (oi := { dst := some 44, op := Op.pick (Operand.tmp 33) (Operand.tmp 43) (Operand.const (Value.bool false)), type := 4, pos := "value.go:299", after := #[{ on := 2, ground := Ground.data }, { on := 12, ground := Ground.data }], guard := none }) (v := ?_) rfl (by kernel_rfl) (by kernel_rfl) (by kernel_rfl) (fun _ _ _ h => h) (Or.inl ⟨by rfl, ?_⟩) ⟨fd0, fd1⟩ ?_
              rotate_left 1
              · intro w hSw
                obtain ⟨hSw0, hSw1⟩ := hSw
                go_simp
                first
                  | done
                  | with_reducible rfl
                  | rw [if_neg (by omega)]
              try simp only [Act.put, List.setIfInBounds_toArray, List.set_cons_zero, List.set_cons_succ]
              refine wpAnyH_done (by kernel_rfl) ?_ _
              refine NoPanic.normal ?_
              go_wp2_with (at_builtin; refine wpList_app _ rfl _ _ 24 rfl w.heap.size 23 i0 _ 1 16 Tryz.underlying24 hi0 hiz0 hiz1 hiz2 rfl (by decide) _ L (out.map Value.string) rfl ((unhide HO9).alloc _) (some ⟨we.heap.size, 0, none⟩) 1 1 [.string ⟨#[]⟩] rfl rfl (new_in we 23 #[.string ⟨#[]⟩]) (by intro x hx; simp at hx; subst hx; rfl) (by unfold maxLen; omega) (by omega) (by have := (unhide HB9).size; simp; omega) ?_; intro v4 w4 hown4 hgrow4 _)
              obtain ⟨g4, c4, rfl, hbg4, hg4, hnc4, -⟩ := owns_cell hown4 (by omega)
              have HB4 := hide (below_app ((unhide HB9).alloc (unhide HB9).size _) ((unhide HO9).alloc _) hgrow4)
              have hb54 : b5 ≠ g4 := fun q => by have := (unhide HBL); omega
              have HC4 : Hid (w4.cell? ⟨b5, o5 + j, none⟩ = some (.string x)) := hide ((World.cell?_of_block ((unhide HB4).block b5 (unhide HBL))).trans (unhide HCW))
              have HO4 := hide hown4
              clear hown4 hgrow4 HB9 HO9
              go_wp2_with fail
              have HBd : Hid (Below w.heap.size w w4.drew) := below_drew (unhide HB4)
              have HOd : Hid (w4.drew.ownsRow w.heap.size 23 1 (.slice (some ⟨g4, 0, none⟩) (L + 1) c4) (L + 1) (out.map Value.string ++ [.string ⟨#[]⟩])) := (unhide HO4).drew
              have HCd : Hid (w4.drew.cell? ⟨b5, o5 + j, none⟩ = some (.string x)) := hide (unhide HC4)
              clear HB4 HO4 HC4
              have hwk : IntKind.i64.wrap ((q : Int) + 1 + 1) = ((q : Int) + 1 + 1) := IntWalk.i64_in _ (by omega)
              have hwt : Int.toNat ((q : Int) + 1 + 1) = (q + 1) + 1 := by omega
              have hkt : Int.toNat ((q : Int) + 1) = (q + 1) := by omega
              refine wp_region_noPanic ?_
              refine wp_region_held_drew (S := fun W => True) (by kernel_rfl) trivial (fun _ => ?_)
              generalize w4.drew = wd at *
              try simp only [Act.put, List.setIfInBounds_toArray, List.set_cons_zero, List.set_cons_succ]
              refine wpAnyH_take (i := 0) (oi := { dst := some 48, op := Op.move (Operand.tmp 3), type := 24, pos := "value.go:303", after := #[], guard := none }) (v := ?_) rfl (by kernel_rfl) (by kernel_rfl) (by kernel_rfl) (fun _ _ _ h => h) (Or.inl ⟨by rfl, ?_⟩) trivial ?_
              rotate_left 1
              · intro w hSw
                try dsimp only at hSw
                go_simp
                first
                  | done
                  | with_reducible rfl
                  | rw [if_neg (by omega)]
              try simp only [Act.put, List.setIfInBounds_toArray, List.set_cons_zero, List.set_cons_succ]
              refine wpAnyH_take (i := 1) (oi := { dst := some 49, op := Op.move (Operand.tmp 5), type := 3, pos := "value.go:303", after := #[], guard := none }) (v := ?_) rfl (by kernel_rfl) (by kernel_rfl) (by kernel_rfl) (fun _ _ _ h => h) (Or.inl ⟨by rfl, ?_⟩) trivial ?_
              rotate_left 1
              · intro w hSw
                try dsimp only at hSw
                go_simp
                first
                  | done
                  | with_reducible rfl
                  | rw [if_neg (by omega)]
              try simp only [Act.put, List.setIfInBounds_toArray, List.set_cons_zero, List.set_cons_succ]
              refine wpAnyH_take (i := 2) (oi := { dst := some 50, op := Op.binOp BinOp.add 3 (Operand.tmp 49) (Operand.const (Value.int IntKind.i64 1)) 3, type := 3, pos := "value.go:303", after := #[{ on := 1, ground := Ground.data }], guard := none }) (v := ?_) rfl (by kernel_rfl) (by kernel_rfl) (by kernel_rfl) (fun _ _ _ h => h) (Or.inl ⟨by rfl, ?_⟩) trivial ?_
              rotate_left 1
              · intro w hSw
                try dsimp only at hSw
                go_simp
                first
                  | done
                  | with_reducible rfl
                  | rw [if_neg (by omega)]
              try simp only [Act.put, List.setIfInBounds_toArray, List.set_cons_zero, List.set_cons_succ]
              refine wpAnyH_take (i := 3) (oi := { dst := some 51, op := Op.slice 24 (Operand.tmp 48) (some (Operand.tmp 50)) none none, type := 24, pos := "value.go:303", after := #[{ on := 0, ground := Ground.data }, { on := 2, ground := Ground.data }], guard := none }) (v := .slice (if c4 = (q + 1) + 1 then some ⟨g4, 0, none⟩ else some ⟨g4, (q + 1) + 1, none⟩) (L - (q + 1)) (c4 - ((q + 1) + 1))) rfl (by kernel_rfl) (by kernel_rfl) (by kernel_rfl) (fun _ _ _ h => h) (Or.inl ⟨by rfl, ?_⟩) trivial ?_
              · intro w hSw
                go_simp
                try simp only [hwk, hwt]
                try rw [if_pos (by omega)]
                try (congr 3 <;> omega)
              try simp only [Act.put, List.setIfInBounds_toArray, List.set_cons_zero, List.set_cons_succ]
              refine wpAnyH_take (i := 4) (oi := { dst := some 52, op := Op.move (Operand.tmp 3), type := 24, pos := "value.go:303", after := #[], guard := none }) (v := ?_) rfl (by kernel_rfl) (by kernel_rfl) (by kernel_rfl) (fun _ _ _ h => h) (Or.inl ⟨by rfl, ?_⟩) trivial ?_
              rotate_left 1
              · intro w hSw
                try dsimp only at hSw
                go_simp
                first
                  | done
                  | with_reducible rfl
                  | rw [if_neg (by omega)]
              try simp only [Act.put, List.setIfInBounds_toArray, List.set_cons_zero, List.set_cons_succ]
              refine wpAnyH_take (i := 5) (oi := { dst := some 53, op := Op.move (Operand.tmp 5), type := 3, pos := "value.go:303", after := #[], guard := none }) (v := ?_) rfl (by kernel_rfl) (by kernel_rfl) (by kernel_rfl) (fun _ _ _ h => h) (Or.inl ⟨by rfl, ?_⟩) trivial ?_
              rotate_left 1
              · intro w hSw
                try dsimp only at hSw
                go_simp
                first
                  | done
                  | with_reducible rfl
                  | rw [if_neg (by omega)]
              try simp only [Act.put, List.setIfInBounds_toArray, List.set_cons_zero, List.set_cons_succ]
              refine wpAnyH_take (i := 6) (oi := { dst := some 54, op := Op.slice 24 (Operand.tmp 52) (some (Operand.tmp 53)) none none, type := 24, pos := "value.go:303", after := #[{ on := 4, ground := Ground.data }, { on := 5, ground := Ground.data }], guard := none }) (v := .slice (some ⟨g4, (q + 1), none⟩) (L + 1 - (q + 1)) (c4 - (q + 1))) rfl (by kernel_rfl) (by kernel_rfl) (by kernel_rfl) (fun _ _ _ h => h) (Or.inl ⟨by rfl, ?_⟩) trivial ?_
              · intro w hSw
                go_simp
                try simp only [hkt]
                try rw [if_pos (by omega)]
                try rw [if_neg (by omega)]
                try (congr 3 <;> omega)
              try simp only [Act.put, List.setIfInBounds_toArray, List.set_cons_zero, List.set_cons_succ]
              refine wpAnyH_ready (rs := [7]) (by kernel_rfl) (by simp) ?_
              refine AllReadyH.cons (o := { dst := some 55, op := Op.call { callee := Callee.builtin Builtin.copy, args := #[Operand.tmp 51, Operand.tmp 54], argTypes := #[24, 24] }, type := 3, pos := "value.go:303", after := #[{ on := 3, ground := Ground.data }, { on := 6, ground := Ground.data }], guard := none }) rfl (fun K hK => ?_) AllReadyH.nil
              refine step_shift rfl _ _ 24 rfl 23 Tryz.underlying24 hsz0 w.heap.size g4 c4 (q + 1) L (out.map Value.string) (.string ⟨#[]⟩) (str_one out) (by omega) (unhide HOd) rfl rfl (unhide HBd) ?_
              intro w5 hown5 hb5b hfz5 hold5
              obtain ⟨old5, hold5⟩ := hold5
              have HB5 := hide hb5b
              have HO5 := hide hown5
              have HST := hide (World.ownsRow.stored (unhide HO5) (q + 1) (.string x))
              have hc6 : w5.cell? ⟨b5, o5 + j, none⟩ = some (.string x) := (World.cell?_of_block ((unhide HB5).block b5 (unhide HBL))).trans (unhide HCW)
              clear hown5 hb5b HOd HBd HCd HO5
              refine hK.out _ _ trivial (fun _ => ?_)
              clear hK K
              try simp only [Act.put, List.setIfInBounds_toArray, List.set_cons_zero, List.set_cons_succ]
              refine wpAnyH_done (by kernel_rfl) ?_ _
              refine NoPanic.normal ?_
              go_wp2_with fail
              go_roundw
              case rel =>
                refine ⟨j + 1, L + 1, out.take (q + 1) ++ x :: out.drop (q + 1), by go_num, by omega, by omega, Lib.hid ?_, Lib.hid ?_, Lib.hid ?_, Lib.hid ?_, Lib.hid ?_⟩
                · have := hL.out; rw [List.length_append, List.length_cons, List.length_take, List.length_drop]; omega
                · have h1 := (unhide HST).1; rw [shift_set (by rw [List.length_map, ← hL.out]; omega), ← map_str_take] at h1; exact h1
                · exact ins_asc hA.out HGG.out HLT.out
                · exact fun u => (ins_mem (q + 1)).trans ((or_congr_left (hM.out u)).trans (HXM.out u).symm)
                · exact below_grown (unhide HB5) (unhide HST).2 hbg4 (Nat.le_refl _)
              case measure => simp [intOf]; omega
    · have HE : Hid (out = sortM ps) := Lib.hid (sortM_eq hA.out fun u => by rw [hM.out, List.take_of_length_le (by have := HN.out; omega)])
      go_wp2_with fail
      go_ret
      refine ⟨A3, c3, L, rfl, by rw [← HE.out]; exact hL.out, by rw [← HE.out]; exact hO.out, hB.out⟩

end Go.Proofs.YtdifpemohdnolaaGreat
