/- The matcher's fields. Conditions: the value has at most 2^48 bytes. -/
import Derived.Test.YtdifpemohdnolaaGreatPtD
import Derived.Test.YtdifpemohdnolaaGreatFnFE
import Derived.Test.YtdifpemohdnolaaGreatVpP
namespace Go.Proofs.YtdifpemohdnolaaGreat
open Go.RowKit VM

/-- what a function returns that parts a value -/
def SpPost (g gm : Nat) (p : List Cd) (pA : Option Addr) (n c : Nat) (vv : Value) (vs : List ByteArray) (r : Option (List ByteArray)) (w : World) (e : Ending) (w' : World) : Prop :=
  ∃ (A : Option Addr) (m d : Nat) (es' : List (ByteArray × Value)), e = .returned (.tuple #[.slice A m d, .bool r.isSome]) ∧ (∀ l, r = some l → m = l.length ∧ PIn w' g gm vv A (l.map Value.string)) ∧ MS g gm p pA n c w' vv vs es' ∧ MStep g gm w w' vv vv
def exactR (k nk : Int) (v : ByteArray) : Option (List ByteArray) := if kindM v = k ∧ ((pt v).length : Int) = nk then some (pt v) else none
set_option linter.unusedSimpArgs false in
set_option maxRecDepth 100000 in
set_option maxHeartbeats 6400000 in
theorem exactly_any (g gm : Nat) (p : List Cd) (pA : Option Addr) (n c : Nat) (vv : Value) (vs : List ByteArray) (es : List (ByteArray × Value)) (v : ByteArray) (hv : v.size ≤ 281474976710656) (k nk : Int) (w : World) (hS : MS g gm p pA n c w vv vs es) :
    Calls Tryz.prog 81 #[.pointer (some ⟨g, 0, none⟩), .int .i64 nk, .string v, .int .i64 k] w (SpPost g gm p pA n c vv vs (exactR k nk v) w) := by
  have HO := hide (open_any g gm p pA n c vv vs es v hv w hS)
  have HPL := Lib.hid (pt_len v)
  have HE : Hid (exactR k nk v = if kindM v = k ∧ ((pt v).length : Int) = nk then some (pt v) else none) := Lib.hid rfl
  generalize exactR k nk v = r at *
  clear hv hS
  by_cases h1 : kindM v = k
  · have g1 : (kindM v == k) = true := by rw [h1]; simp
    have g1b : (kindM v != k) = false := by rw [h1]; simp
    by_cases h2 : ((pt v).length : Int) = nk
    · rw [if_pos ⟨h1, h2⟩] at HE
      have HH2 := Lib.hid h2
      clear h2
      unfold OpPost at HO
      generalize kindM v = kd at *
      clear h1
      go_enter Tryz.func81, Tryz.ntmps81
      go_wp2_with fail
      refine (unhide HO).mono ?_
      rintro e w1 ⟨A, m, d, es', rfl, ⟨hm, -⟩, hP, hS1, hst⟩
      have HM := Lib.hid hm
      have HP := hide hP
      have HS := hide hS1
      have HST := hide hst
      have gm2 : ((m : Int) == nk) = true := by rw [hm, HH2.out]; simp
      clear hm hP hS1 hst HO
      go_wp2_with fail
      go_ret2
      refine ⟨A, m, d, es', by rw [HE.out]; rfl, fun l hl => ?_, (unhide HS).below ((Below.refl _ _).alloc (Nat.le_refl _) _), (unhide HST).trans (.below vv ((Below.refl _ _).alloc (Nat.le_refl _) _))⟩
      rw [HE.out] at hl
      cases hl
      exact ⟨HM.out, (unhide HP).step (.below vv ((Below.refl _ _).alloc (Nat.le_refl _) _))⟩
    · rw [if_neg (fun q => h2 q.2)] at HE
      have HH2 := Lib.hid h2
      clear h2
      unfold OpPost at HO
      generalize kindM v = kd at *
      clear h1
      go_enter Tryz.func81, Tryz.ntmps81
      go_wp2_with fail
      refine (unhide HO).mono ?_
      rintro e w1 ⟨A, m, d, es', rfl, ⟨hm, -⟩, hP, hS1, hst⟩
      have HS := hide hS1
      have HST := hide hst
      have gm2 : ((m : Int) == nk) = false := beq_eq_false_iff_ne.2 (by rw [hm]; exact HH2.out)
      clear hm hP hS1 hst HO
      go_wp2_with fail
      go_ret2
      exact ⟨none, 0, 0, es', by rw [HE.out]; rfl, fun l hl => (by rw [HE.out] at hl; cases hl), (unhide HS).below ((Below.refl _ _).alloc (Nat.le_refl _) _), (unhide HST).trans (.below vv ((Below.refl _ _).alloc (Nat.le_refl _) _))⟩
  · rw [if_neg (fun q => h1 q.1)] at HE
    have g1 : (kindM v == k) = false := beq_eq_false_iff_ne.2 h1
    clear h1
    unfold OpPost at HO
    generalize kindM v = kd at *
    go_enter Tryz.func81, Tryz.ntmps81
    go_wp2_with fail
    refine (unhide HO).mono ?_
    rintro e w1 ⟨A, m, d, es', rfl, ⟨hm, -⟩, hP, hS1, hst⟩
    have HS := hide hS1
    have HST := hide hst
    clear hm hP hS1 hst HO
    go_wp2_with fail
    go_ret2
    exact ⟨none, 0, 0, es', by rw [HE.out]; rfl, fun l hl => (by rw [HE.out] at hl; cases hl), (unhide HS).below ((Below.refl _ _).alloc (Nat.le_refl _) _), (unhide HST).trans (.below vv ((Below.refl _ _).alloc (Nat.le_refl _) _))⟩

end Go.Proofs.YtdifpemohdnolaaGreat
namespace Go.Proofs.YtdifpemohdnolaaGreat
open Go.RowKit VM

/-- the name of a dotted value -/
def dotN (v : ByteArray) : Nat := match treeB v with
  | .comp _ (.name a b :: _) => u16 a b
  | _ => 0
theorem dot_head {v : ByteArray} (h : kindM v = 7) : ∃ ps, pt v = nameB (dotN v) :: ps ∧ dotN v < 65536 := by
  unfold kindM at h
  split at h
  · rename_i hv
    obtain ⟨h1, _, _⟩ := tree_ok hv
    have hk : (treeB v).kind = 7 := UInt8.toNat_inj.1 (by have : (7 : UInt8).toNat = 7 := rfl; omega)
    cases ht : treeB v with
    | int l => rw [ht] at hk; cases hk
    | bool l => rw [ht] at hk; cases hk
    | name a b => rw [ht] at hk; cases hk
    | comp k l =>
      rw [ht] at hk h1
      change k = 7 at hk
      subst hk
      have hp := (pt_comp hv ht).1
      unfold wf parted at h1
      simp only [Bool.and_eq_true] at h1
      have hc := h1.2.2.2.1
      have hh := h1.2.2.2.2.1
      cases l with
      | nil => simp [countOK] at hc
      | cons x l =>
        cases x with
        | int q => simp [headL, headOK] at hh
        | bool q => simp [headL, headOK] at hh
        | comp q r => simp [headL, headOK] at hh
        | name a b =>
          have hd : dotN v = u16 a b := by unfold dotN; rw [ht]
          refine ⟨l.map fun v => toB (enc v), ?_, by rw [hd]; exact u16_lt a b⟩
          rw [hp, hd, List.map_cons]
          congr 1
          unfold nameB twoL
          rw [(ofNat_u16 a b).1, (ofNat_u16 a b).2]
          rfl
  · cases h
def fieldsR (num kids : Int) (v : ByteArray) : Option (List ByteArray) := if kindM v = 7 ∧ ((pt v).length : Int) - 1 = kids ∧ (dotN v : Int) = num then some (pt v).tail else none
theorem cell_down {w wx : World} {a : Addr} {v : Value} (hb : Below w.heap.size w wx) (h : w.cell? a = some v) : wx.cell? a = some v := (hb.cell (World.block_lt_of_cell? w a h)).trans h
theorem PIn.tail {w : World} {g gm : Nat} {vv : Value} {A : Option Addr} {x : Value} {xs : List Value} (h : PIn w g gm vv A (x :: xs)) : ∃ b off, A = some ⟨b, off, none⟩ ∧ Safe w g gm vv b ∧ w.cell? ⟨b, off, none⟩ = some x ∧ PIn w g gm vv (some ⟨b, off + 1, none⟩) xs := by
  rcases h with h | ⟨b, off, h1, h2, h3⟩
  · cases h
  · exact ⟨b, off, h1, h2, h3 0 x rfl, .inr ⟨b, off + 1, rfl, h2, fun i u hu => by rw [Nat.add_assoc, Nat.add_comm 1 i]; exact h3 (i + 1) u hu⟩⟩
set_option linter.unusedSimpArgs false in
set_option maxRecDepth 100000 in
set_option maxHeartbeats 6400000 in
theorem fields_any (g gm : Nat) (p : List Cd) (pA : Option Addr) (n c : Nat) (vv : Value) (vs : List ByteArray) (es : List (ByteArray × Value)) (v : ByteArray) (hv : v.size ≤ 281474976710656) (op num kids : Int) (w : World) (hS : MS g gm p pA n c w vv vs es) :
    Calls Tryz.prog 83 #[.pointer (some ⟨g, 0, none⟩), .agg #[.int .i64 op, .int .i64 num, .int .i64 kids], .string v] w (SpPost g gm p pA n c vv vs (fieldsR num kids v) w) := by
  obtain ⟨W1, hW1⟩ : ∃ W1, W1 = w.alloc (.cells #[.int .i64 op, .int .i64 num, .int .i64 kids] 27) := ⟨_, rfl⟩
  have hb1 : Below w.heap.size w W1 := by rw [hW1]; exact (Below.refl _ w).alloc (Nat.le_refl _) _
  have hS1 := hS.below hb1
  have HO := hide (open_any g gm p pA n c vv vs es v hv W1 hS1)
  have hK : Blk W1 w.heap.size 27 #[.int .i64 op, .int .i64 num, .int .i64 kids] := by rw [hW1]; exact Blk.new w _ _
  have hne := hS.ne
  have hsafe : Safe W1 g gm vv w.heap.size := ⟨hK.lt, by omega, by omega, fun e => by have := (hS.row.lt _ e.symm).2; omega⟩
  have HSF := Lib.hid hsafe
  have HK := hide hK
  have HST0 := hide (MStep.below (g := g) (gm := gm) vv hb1)
  have HPL := Lib.hid (pt_len v)
  have HE : Hid (fieldsR num kids v = if kindM v = 7 ∧ ((pt v).length : Int) - 1 = kids ∧ (dotN v : Int) = num then some (pt v).tail else none) := Lib.hid rfl
  generalize fieldsR num kids v = r at *
  have HD := Lib.hid (dot_head (v := v))
  clear hv hS hb1 hS1 hK hne hsafe
  unfold OpPost at HO
  generalize kindM v = kd at *
  rw [hW1] at HO
  go_enter Tryz.func83, Tryz.ntmps83
  go_wp2_with fail
  refine (unhide HO).mono ?_
  rintro e w1 ⟨A, m, d, es', rfl, ⟨hm, hmd⟩, hP, hS1, hst⟩
  have HMD := Lib.hid hmd
  clear hmd
  have HS := hide hS1
  rw [← hW1] at hst
  have hst2 := (unhide HST0).trans hst
  have HST := hide hst2
  have HC1 : Hid (w1.cell? ⟨w.heap.size, 1, none⟩ = some (.int .i64 num)) := Lib.hid ((hst.keep.cell (b := w.heap.size) HSF.out 1).trans ((unhide HK).cell 1))
  have HC2 : Hid (w1.cell? ⟨w.heap.size, 2, none⟩ = some (.int .i64 kids)) := Lib.hid ((hst.keep.cell (b := w.heap.size) HSF.out 2).trans ((unhide HK).cell 2))
  have HLT : Hid (w.heap.size < w1.heap.size) := Lib.hid (Nat.lt_of_lt_of_le HSF.out.1 hst.keep.size)
  have HP := hide hP
  have HM := Lib.hid hm
  clear hS1 hst hst2 hP hm HO
  obtain ⟨g5, hg5⟩ : ∃ z, Hid (w1.heap.size = z) := ⟨_, Lib.hid rfl⟩
  obtain ⟨gc, hgc⟩ : ∃ z, Hid (w.heap.size = z) := ⟨_, Lib.hid rfl⟩
  obtain ⟨w2, hw2⟩ : ∃ z, z = w1.alloc (.cells #[.int .i64 kd, .slice A m d] 115) := ⟨_, rfl⟩
  have hb2 : Below w1.heap.size w1 w2 := by rw [hw2]; exact (Below.refl _ _).alloc (Nat.le_refl _) _
  have K5 : Blk w2 w1.heap.size 115 #[.int .i64 kd, .slice A m d] := by rw [hw2]; exact Blk.new _ _ _
  have hc1 : w2.cell? ⟨w.heap.size, 1, none⟩ = some (.int .i64 num) := by rw [hw2]; exact (World.cell?_alloc_lt _ _ _ HLT.out).trans HC1.out
  have hc2 : w2.cell? ⟨w.heap.size, 2, none⟩ = some (.int .i64 kids) := by rw [hw2]; exact (World.cell?_alloc_lt _ _ _ HLT.out).trans HC2.out
  have hk0 := K5.cell 0
  have hk1 := K5.cell 1
  change w2.cell? ⟨_, 0, none⟩ = some (.int .i64 kd) at hk0
  change w2.cell? ⟨_, 1, none⟩ = some (.slice A m d) at hk1
  have HB2 := hide hb2
  clear hb2 K5
  by_cases h1 : kd = 7
  · subst h1
    obtain ⟨ps, hd1, hd2⟩ := HD.out rfl
    have HN := Lib.hid (fun w => pnumber_name (dotN v) hd2 w)
    have hp := unhide HP
    rw [hd1, List.map_cons] at hp
    obtain ⟨b, off, rfl, hbs, hc0, hpt⟩ := hp.tail
    have hcb : w2.cell? ⟨b, off, none⟩ = some (.string (nameB (dotN v))) := by rw [hw2]; exact (World.cell?_alloc_lt _ _ _ hbs.1).trans hc0
    have HPT := hide hpt
    have hm1 : m = ps.length + 1 := by rw [HM.out, hd1]; rfl
    have hl := HPL.out
    rw [← HM.out] at hl
    have g2 : wrap64 ((m : Int) - 1) = (m : Int) - 1 := IntWalk.wrap64_in _ (by omega)
    have g2w : IntKind.i64.wrap ((m : Int) - 1) = (m : Int) - 1 := IntWalk.i64_in _ (by omega)
    have hm0 : 1 ≤ m := by omega
    have hm0i : (0 : Int) < (m : Int) := by omega
    rw [hd1] at HE
    simp only [List.tail_cons, List.length_cons] at HE
    have HM1 := Lib.hid hm1
    clear hpt hp HP HD hd2 hd1 hm1 hc0 hbs
    generalize nameB (dotN v) = x at *
    generalize dotN v = nn at *
    by_cases h2 : (m : Int) - 1 = kids
    · have g3 : ((m : Int) - 1 == kids) = true := by simpa using h2
      have g3b : ((m : Int) - 1 != kids) = false := by simpa using h2
      by_cases h3 : (nn : Int) = num
      · have g4 : ((nn : Int) == num) = true := by simpa using h3
        have g4b : ((nn : Int) != num) = false := by simpa using h3
        have HH : Hid (r = some ps) := Lib.hid (by rw [HE.out]; exact if_pos ⟨by trivial, by have := HM1.out; omega, h3⟩)
        clear HE h2 h3
        go_wp2_with fail
        simp only [← hw2, hg5.out, hgc.out] at hk0 hk1 hc1 hc2 ⊢
        have hbw := hide (below_drew (unhide HB2))
        have HN2 := Lib.hid (HN.out w2.drew)
        clear hw2 HB2 HN
        have fd0 : Hid (w2.drew.cell? ⟨g5, 0, none⟩ = some (.int .i64 7)) := hide hk0
        have fd1 : Hid (w2.drew.cell? ⟨g5, 1, none⟩ = some (.slice (some ⟨b, off, none⟩) m d)) := hide hk1
        have fd2 : Hid (w2.drew.cell? ⟨gc, 1, none⟩ = some (.int .i64 num)) := hide hc1
        have fd3 : Hid (w2.drew.cell? ⟨gc, 2, none⟩ = some (.int .i64 kids)) := hide hc2
        have fd4 : Hid (w2.drew.cell? ⟨b, off, none⟩ = some (.string x)) := hide hcb
        refine wp_region_noPanic ?_
        refine wp_region_held_drew (S := fun W => W.cell? ⟨g5, 0, none⟩ = some (.int .i64 7) ∧ W.cell? ⟨g5, 1, none⟩ = some (.slice (some ⟨b, off, none⟩) m d) ∧ W.cell? ⟨gc, 1, none⟩ = some (.int .i64 num) ∧ W.cell? ⟨gc, 2, none⟩ = some (.int .i64 kids) ∧ W.cell? ⟨b, off, none⟩ = some (.string x)) (by kernel_rfl) ⟨fd0, fd1, fd2, fd3, fd4⟩ (fun _ => ?_)
        generalize w2.drew = wd at *
        try simp only [Act.put, List.setIfInBounds_toArray, List.set_cons_zero, List.set_cons_succ]
        refine wpAnyH_take (i := 0) (oi := { dst := some 12, op := Op.fieldAddr 115 (Operand.tmp 8) 0, type := 0, pos := "match.go:101", after := #[], guard := none }) (v := ?_) rfl (by kernel_rfl) (by kernel_rfl) (by kernel_rfl) (fun _ _ _ h => h) (Or.inl ⟨by rfl, ?_⟩) ⟨fd0, fd1, fd2, fd3, fd4⟩ ?_
        rotate_left 1
        · intro w hSw
          obtain ⟨hSw0, hSw1, hSw2, hSw3, hSw4⟩ := hSw
          go_simp
          first
            | done
            | with_reducible rfl
            | rw [if_neg (by omega)]
        try simp only [Act.put, List.setIfInBounds_toArray, List.set_cons_zero, List.set_cons_succ]
        refine wpAnyH_take (i := 1) (oi := { dst := some 13, op := Op.load 3 (Operand.tmp 12), type := 3, pos := "match.go:101", after := #[{ on := 0, ground := Ground.data }], guard := none }) (v := ?_) rfl (by kernel_rfl) (by kernel_rfl) (by kernel_rfl) (fun _ _ _ h => h) (Or.inl ⟨by rfl, ?_⟩) ⟨fd0, fd1, fd2, fd3, fd4⟩ ?_
        rotate_left 1
        · intro w hSw
          obtain ⟨hSw0, hSw1, hSw2, hSw3, hSw4⟩ := hSw
          go_simp
          first
            | done
            | with_reducible rfl
            | rw [if_neg (by omega)]
        try simp only [Act.put, List.setIfInBounds_toArray, List.set_cons_zero, List.set_cons_succ]
        refine wpAnyH_take (i := 2) (oi := { dst := some 14, op := Op.binOp BinOp.neq 3 (Operand.tmp 13) (Operand.const (Value.int IntKind.i64 7)) 3, type := 4, pos := "match.go:101", after := #[{ on := 1, ground := Ground.data }], guard := none }) (v := ?_) rfl (by kernel_rfl) (by kernel_rfl) (by kernel_rfl) (fun _ _ _ h => h) (Or.inl ⟨by rfl, ?_⟩) ⟨fd0, fd1, fd2, fd3, fd4⟩ ?_
        rotate_left 1
        · intro w hSw
          obtain ⟨hSw0, hSw1, hSw2, hSw3, hSw4⟩ := hSw
          go_simp
          first
            | done
            | with_reducible rfl
            | rw [if_neg (by omega)]
        try simp only [Act.put, List.setIfInBounds_toArray, List.set_cons_zero, List.set_cons_succ]
        refine wpAnyH_take (i := 3) (oi := { dst := some 15, op := Op.move (Operand.tmp 14), type := 4, pos := "match.go:101", after := #[{ on := 2, ground := Ground.data }], guard := none }) (v := ?_) rfl (by kernel_rfl) (by kernel_rfl) (by kernel_rfl) (fun _ _ _ h => h) (Or.inl ⟨by rfl, ?_⟩) ⟨fd0, fd1, fd2, fd3, fd4⟩ ?_
        rotate_left 1
        · intro w hSw
          obtain ⟨hSw0, hSw1, hSw2, hSw3, hSw4⟩ := hSw
          go_simp
          first
            | done
            | with_reducible rfl
            | rw [if_neg (by omega)]
        try simp only [Act.put, List.setIfInBounds_toArray, List.set_cons_zero, List.set_cons_succ]
        refine wpAnyH_take (i := 4) (oi := { dst := some 16, op := Op.fieldAddr 115 (Operand.tmp 8) 1, type := 0, pos := "match.go:101", after := #[{ on := 3, ground := Ground.guard }], guard := some (3, false) }) (v := ?_) rfl (by kernel_rfl) (by kernel_rfl) (by kernel_rfl) (fun _ _ _ h => h) (Or.inl ⟨by rfl, ?_⟩) ⟨fd0, fd1, fd2, fd3, fd4⟩ ?_
        rotate_left 1
        · intro w hSw
          obtain ⟨hSw0, hSw1, hSw2, hSw3, hSw4⟩ := hSw
          go_simp
          first
            | done
            | with_reducible rfl
            | rw [if_neg (by omega)]
        try simp only [Act.put, List.setIfInBounds_toArray, List.set_cons_zero, List.set_cons_succ]
        refine wpAnyH_take (i := 5) (oi := { dst := some 17, op := Op.load 24 (Operand.tmp 16), type := 24, pos := "match.go:101", after := #[{ on := 4, ground := Ground.data }, { on := 3, ground := Ground.guard }], guard := some (3, false) }) (v := ?_) rfl (by kernel_rfl) (by kernel_rfl) (by kernel_rfl) (fun _ _ _ h => h) (Or.inl ⟨by rfl, ?_⟩) ⟨fd0, fd1, fd2, fd3, fd4⟩ ?_
        rotate_left 1
        · intro w hSw
          obtain ⟨hSw0, hSw1, hSw2, hSw3, hSw4⟩ := hSw
          go_simp
          first
            | done
            | with_reducible rfl
            | rw [if_neg (by omega)]
        try simp only [Act.put, List.setIfInBounds_toArray, List.set_cons_zero, List.set_cons_succ]
        refine wpAnyH_take (i := 6) (oi := { dst := some 18, op := Op.call { callee := Callee.builtin Builtin.len, args := #[Operand.tmp 17], argTypes := #[24] }, type := 3, pos := "match.go:101", after := #[{ on := 5, ground := Ground.data }, { on := 3, ground := Ground.guard }], guard := some (3, false) }) (v := ?_) rfl (by kernel_rfl) (by kernel_rfl) (by kernel_rfl) (fun _ _ _ h => h) (Or.inl ⟨by rfl, ?_⟩) ⟨fd0, fd1, fd2, fd3, fd4⟩ ?_
        rotate_left 1
        · intro w hSw
          obtain ⟨hSw0, hSw1, hSw2, hSw3, hSw4⟩ := hSw
          go_simp
          first
            | done
            | with_reducible rfl
            | rw [if_neg (by omega)]
        try simp only [Act.put, List.setIfInBounds_toArray, List.set_cons_zero, List.set_cons_succ]
        refine wpAnyH_take (i := 7) (oi := { dst := some 19, op := Op.binOp BinOp.sub 3 (Operand.tmp 18) (Operand.const (Value.int IntKind.i64 1)) 3, type := 3, pos := "match.go:101", after := #[{ on := 6, ground := Ground.data }, { on := 3, ground := Ground.guard }], guard := some (3, false) }) (v := .int .i64 ((m : Int) - 1)) rfl (by kernel_rfl) (by kernel_rfl) (by kernel_rfl) (fun _ _ _ h => h) (Or.inl ⟨by rfl, ?_⟩) ⟨fd0, fd1, fd2, fd3, fd4⟩ ?_
        · intro w hSw
          go_simp
          first
            | done
            | exact g2w
            | done
            | with_reducible rfl
            | rw [g2w]
            | simp [g2w]
        try simp only [Act.put, List.setIfInBounds_toArray, List.set_cons_zero, List.set_cons_succ]
        refine wpAnyH_take (i := 8) (oi := { dst := some 20, op := Op.fieldAddr 27 (Operand.tmp 4) 2, type := 0, pos := "match.go:101", after := #[{ on := 3, ground := Ground.guard }], guard := some (3, false) }) (v := ?_) rfl (by kernel_rfl) (by kernel_rfl) (by kernel_rfl) (fun _ _ _ h => h) (Or.inl ⟨by rfl, ?_⟩) ⟨fd0, fd1, fd2, fd3, fd4⟩ ?_
        rotate_left 1
        · intro w hSw
          obtain ⟨hSw0, hSw1, hSw2, hSw3, hSw4⟩ := hSw
          go_simp
          first
            | done
            | with_reducible rfl
            | rw [if_neg (by omega)]
        try simp only [Act.put, List.setIfInBounds_toArray, List.set_cons_zero, List.set_cons_succ]
        refine wpAnyH_take (i := 9) (oi := { dst := some 21, op := Op.load 3 (Operand.tmp 20), type := 3, pos := "match.go:101", after := #[{ on := 8, ground := Ground.data }, { on := 3, ground := Ground.guard }], guard := some (3, false) }) (v := ?_) rfl (by kernel_rfl) (by kernel_rfl) (by kernel_rfl) (fun _ _ _ h => h) (Or.inl ⟨by rfl, ?_⟩) ⟨fd0, fd1, fd2, fd3, fd4⟩ ?_
        rotate_left 1
        · intro w hSw
          obtain ⟨hSw0, hSw1, hSw2, hSw3, hSw4⟩ := hSw
          go_simp
          first
            | done
            | with_reducible rfl
            | rw [if_neg (by omega)]
        try simp only [Act.put, List.setIfInBounds_toArray, List.set_cons_zero, List.set_cons_succ]
        refine wpAnyH_take (i := 10) (oi := { dst := some 22, op := Op.binOp BinOp.neq 3 (Operand.tmp 19) (Operand.tmp 21) 3, type := 4, pos := "match.go:101", after := #[{ on := 7, ground := Ground.data }, { on := 9, ground := Ground.data }, { on := 3, ground := Ground.guard }], guard := some (3, false) }) (v := .bool false) rfl (by kernel_rfl) (by kernel_rfl) (by kernel_rfl) (fun _ _ _ h => h) (Or.inl ⟨by rfl, ?_⟩) ⟨fd0, fd1, fd2, fd3, fd4⟩ ?_
        · intro w hSw
          go_simp
          first
            | done
            | exact g3b
            | done
            | with_reducible rfl
            | rw [g3b]
            | simp [g3b]
        try simp only [Act.put, List.setIfInBounds_toArray, List.set_cons_zero, List.set_cons_succ]
        refine wpAnyH_take (i := 11) (oi := { dst := some 23, op := Op.pick (Operand.tmp 15) (Operand.const (Value.bool true)) (Operand.tmp 22), type := 4, pos := "match.go:101", after := #[{ on := 3, ground := Ground.data }, { on := 10, ground := Ground.data }], guard := none }) (v := ?_) rfl (by kernel_rfl) (by kernel_rfl) (by kernel_rfl) (fun _ _ _ h => h) (Or.inl ⟨by rfl, ?_⟩) ⟨fd0, fd1, fd2, fd3, fd4⟩ ?_
        rotate_left 1
        · intro w hSw
          obtain ⟨hSw0, hSw1, hSw2, hSw3, hSw4⟩ := hSw
          go_simp
          first
            | done
            | with_reducible rfl
            | rw [if_neg (by omega)]
        try simp only [Act.put, List.setIfInBounds_toArray, List.set_cons_zero, List.set_cons_succ]
        refine wpAnyH_take (i := 12) (oi := { dst := some 24, op := Op.move (Operand.tmp 23), type := 4, pos := "match.go:101", after := #[{ on := 11, ground := Ground.data }, { on := 3, ground := Ground.chain }], guard := none }) (v := ?_) rfl (by kernel_rfl) (by kernel_rfl) (by kernel_rfl) (fun _ _ _ h => h) (Or.inl ⟨by rfl, ?_⟩) ⟨fd0, fd1, fd2, fd3, fd4⟩ ?_
        rotate_left 1
        · intro w hSw
          obtain ⟨hSw0, hSw1, hSw2, hSw3, hSw4⟩ := hSw
          go_simp
          first
            | done
            | with_reducible rfl
            | rw [if_neg (by omega)]
        try simp only [Act.put, List.setIfInBounds_toArray, List.set_cons_zero, List.set_cons_succ]
        refine wpAnyH_take (i := 13) (oi := { dst := some 25, op := Op.fieldAddr 115 (Operand.tmp 8) 1, type := 0, pos := "match.go:101", after := #[{ on := 12, ground := Ground.guard }], guard := some (12, false) }) (v := ?_) rfl (by kernel_rfl) (by kernel_rfl) (by kernel_rfl) (fun _ _ _ h => h) (Or.inl ⟨by rfl, ?_⟩) ⟨fd0, fd1, fd2, fd3, fd4⟩ ?_
        rotate_left 1
        · intro w hSw
          obtain ⟨hSw0, hSw1, hSw2, hSw3, hSw4⟩ := hSw
          go_simp
          first
            | done
            | with_reducible rfl
            | rw [if_neg (by omega)]
        try simp only [Act.put, List.setIfInBounds_toArray, List.set_cons_zero, List.set_cons_succ]
        refine wpAnyH_take (i := 14) (oi := { dst := some 26, op := Op.load 24 (Operand.tmp 25), type := 24, pos := "match.go:101", after := #[{ on := 13, ground := Ground.data }, { on := 12, ground := Ground.guard }], guard := some (12, false) }) (v := ?_) rfl (by kernel_rfl) (by kernel_rfl) (by kernel_rfl) (fun _ _ _ h => h) (Or.inl ⟨by rfl, ?_⟩) ⟨fd0, fd1, fd2, fd3, fd4⟩ ?_
        rotate_left 1
        · intro w hSw
          obtain ⟨hSw0, hSw1, hSw2, hSw3, hSw4⟩ := hSw
          go_simp
          first
            | done
            | with_reducible rfl
            | rw [if_neg (by omega)]
        try simp only [Act.put, List.setIfInBounds_toArray, List.set_cons_zero, List.set_cons_succ]
        refine wpAnyH_take (i := 15) (oi := { dst := some 27, op := Op.indexAddr 24 (Operand.tmp 26) (Operand.const (Value.int IntKind.i64 0)), type := 0, pos := "match.go:101", after := #[{ on := 14, ground := Ground.data }, { on := 12, ground := Ground.guard }], guard := some (12, false) }) (v := .pointer (some ⟨b, off, none⟩)) rfl (by kernel_rfl) (by kernel_rfl) (by kernel_rfl) (fun _ _ _ h => h) (Or.inl ⟨by rfl, ?_⟩) ⟨fd0, fd1, fd2, fd3, fd4⟩ ?_
        · intro w hSw
          go_simp
          first
            | done
            | (intro q; omega)
            | (rw [if_pos (by omega)]; rfl)
            | (rw [if_pos (by omega)]; simp)
        try simp only [Act.put, List.setIfInBounds_toArray, List.set_cons_zero, List.set_cons_succ]
        refine wpAnyH_take (i := 16) (oi := { dst := some 28, op := Op.load 23 (Operand.tmp 27), type := 23, pos := "match.go:101", after := #[{ on := 15, ground := Ground.data }, { on := 12, ground := Ground.guard }], guard := some (12, false) }) (v := ?_) rfl (by kernel_rfl) (by kernel_rfl) (by kernel_rfl) (fun _ _ _ h => h) (Or.inl ⟨by rfl, ?_⟩) ⟨fd0, fd1, fd2, fd3, fd4⟩ ?_
        rotate_left 1
        · intro w hSw
          obtain ⟨hSw0, hSw1, hSw2, hSw3, hSw4⟩ := hSw
          go_simp
          first
            | done
            | with_reducible rfl
            | rw [if_neg (by omega)]
        try simp only [Act.put, List.setIfInBounds_toArray, List.set_cons_zero, List.set_cons_succ]
        refine wpAnyH_take (i := 18) (oi := { dst := some 30, op := Op.fieldAddr 27 (Operand.tmp 4) 1, type := 0, pos := "match.go:101", after := #[{ on := 12, ground := Ground.guard }], guard := some (12, false) }) (v := ?_) rfl (by kernel_rfl) (by kernel_rfl) (by kernel_rfl) (fun _ _ _ h => h) (Or.inl ⟨by rfl, ?_⟩) ⟨fd0, fd1, fd2, fd3, fd4⟩ ?_
        rotate_left 1
        · intro w hSw
          obtain ⟨hSw0, hSw1, hSw2, hSw3, hSw4⟩ := hSw
          go_simp
          first
            | done
            | with_reducible rfl
            | rw [if_neg (by omega)]
        try simp only [Act.put, List.setIfInBounds_toArray, List.set_cons_zero, List.set_cons_succ]
        refine wpAnyH_take (i := 19) (oi := { dst := some 31, op := Op.load 2 (Operand.tmp 30), type := 2, pos := "match.go:101", after := #[{ on := 18, ground := Ground.data }, { on := 12, ground := Ground.guard }], guard := some (12, false) }) (v := ?_) rfl (by kernel_rfl) (by kernel_rfl) (by kernel_rfl) (fun _ _ _ h => h) (Or.inl ⟨by rfl, ?_⟩) ⟨fd0, fd1, fd2, fd3, fd4⟩ ?_
        rotate_left 1
        · intro w hSw
          obtain ⟨hSw0, hSw1, hSw2, hSw3, hSw4⟩ := hSw
          go_simp
          first
            | done
            | with_reducible rfl
            | rw [if_neg (by omega)]
        try simp only [Act.put, List.setIfInBounds_toArray, List.set_cons_zero, List.set_cons_succ]
        refine wpAnyH_ready (rs := [17]) (by kernel_rfl) (by simp) ?_
        refine AllReadyH.cons (o := { dst := some 29, op := Op.call { callee := Callee.value (Operand.func 97), args := #[Operand.tmp 28], argTypes := #[23] }, type := 2, pos := "match.go:101", after := #[{ on := 16, ground := Ground.data }, { on := 12, ground := Ground.chain }, { on := 12, ground := Ground.guard }], guard := some (12, false) }) rfl (fun K hK => ?_) AllReadyH.nil
        go_simp
        go_at_call 97
        refine (HN2.out).mono ?_
        rintro e w501 ⟨rfl, hbz⟩
        have HBZ := hide ((unhide hbw).trans (hbz.mono (unhide hbw).size))
        try dsimp only
        refine hK.out _ _ ⟨hide (cell_down hbz (unhide fd0)), hide (cell_down hbz (unhide fd1)), hide (cell_down hbz (unhide fd2)), hide (cell_down hbz (unhide fd3)), hide (cell_down hbz (unhide fd4))⟩ (fun _ => ?_)
        clear hK K
        try simp only [Act.put, List.setIfInBounds_toArray, List.set_cons_zero, List.set_cons_succ]
        refine wpAnyH_take (i := 20) (oi := { dst := some 32, op := Op.binOp BinOp.neq 2 (Operand.tmp 29) (Operand.tmp 31) 2, type := 4, pos := "match.go:101", after := #[{ on := 17, ground := Ground.data }, { on := 19, ground := Ground.data }, { on := 12, ground := Ground.guard }], guard := some (12, false) }) (v := .bool false) rfl (by kernel_rfl) (by kernel_rfl) (by kernel_rfl) (fun _ _ _ h => h) (Or.inl ⟨by rfl, ?_⟩) ⟨hide (cell_down hbz (unhide fd0)), hide (cell_down hbz (unhide fd1)), hide (cell_down hbz (unhide fd2)), hide (cell_down hbz (unhide fd3)), hide (cell_down hbz (unhide fd4))⟩ ?_
        · intro w hSw
          go_simp
          first
            | done
            | exact g4b
            | done
            | with_reducible rfl
            | rw [g4b]
            | simp [g4b]
        try simp only [Act.put, List.setIfInBounds_toArray, List.set_cons_zero, List.set_cons_succ]
        refine wpAnyH_take (i := 21) (oi := { dst := some 33, op := Op.pick (Operand.tmp 24) (Operand.const (Value.bool true)) (Operand.tmp 32), type := 4, pos := "match.go:101", after := #[{ on := 12, ground := Ground.data }, { on := 20, ground := Ground.data }], guard := none }) (v := ?_) rfl (by kernel_rfl) (by kernel_rfl) (by kernel_rfl) (fun _ _ _ h => h) (Or.inl ⟨by rfl, ?_⟩) ⟨hide (cell_down hbz (unhide fd0)), hide (cell_down hbz (unhide fd1)), hide (cell_down hbz (unhide fd2)), hide (cell_down hbz (unhide fd3)), hide (cell_down hbz (unhide fd4))⟩ ?_
        rotate_left 1
        · intro w hSw
          obtain ⟨hSw0, hSw1, hSw2, hSw3, hSw4⟩ := hSw
          go_simp
          first
            | done
            | with_reducible rfl
            | rw [if_neg (by omega)]
        try simp only [Act.put, List.setIfInBounds_toArray, List.set_cons_zero, List.set_cons_succ]
        refine wpAnyH_done (by kernel_rfl) ?_ _
        refine NoPanic.normal ?_
        go_wp2_with fail
        · rename_i hd
          have hps : ps = [] := List.eq_nil_of_length_eq_zero (by have := HM1.out; have := HMD.out; omega)
          go_ret2
          exact ⟨_, _, _, es', by rw [HH.out]; rfl, fun l hl => (by rw [HH.out] at hl; cases hl; exact ⟨by have := HM1.out; omega, .inl (by rw [hps]; rfl)⟩), (unhide HS).below (unhide HBZ), (unhide HST).trans (.below vv (unhide HBZ))⟩
        · go_ret2
          exact ⟨_, _, _, es', by rw [HH.out]; rfl, fun l hl => (by rw [HH.out] at hl; cases hl; exact ⟨by have := HM1.out; omega, (unhide HPT).step (.below vv (unhide HBZ))⟩), (unhide HS).below (unhide HBZ), (unhide HST).trans (.below vv (unhide HBZ))⟩
      · have g4 : ((nn : Int) == num) = false := beq_eq_false_iff_ne.2 h3
        have g4b : ((nn : Int) != num) = true := by simpa using h3
        have HH : Hid (r = none) := Lib.hid (by rw [HE.out]; exact if_neg fun q => h3 q.2.2)
        clear HE h2 h3
        go_wp2_with fail
        simp only [← hw2, hg5.out, hgc.out] at hk0 hk1 hc1 hc2 ⊢
        have hbw := hide (below_drew (unhide HB2))
        have HN2 := Lib.hid (HN.out w2.drew)
        clear hw2 HB2 HN
        have fd0 : Hid (w2.drew.cell? ⟨g5, 0, none⟩ = some (.int .i64 7)) := hide hk0
        have fd1 : Hid (w2.drew.cell? ⟨g5, 1, none⟩ = some (.slice (some ⟨b, off, none⟩) m d)) := hide hk1
        have fd2 : Hid (w2.drew.cell? ⟨gc, 1, none⟩ = some (.int .i64 num)) := hide hc1
        have fd3 : Hid (w2.drew.cell? ⟨gc, 2, none⟩ = some (.int .i64 kids)) := hide hc2
        have fd4 : Hid (w2.drew.cell? ⟨b, off, none⟩ = some (.string x)) := hide hcb
        refine wp_region_noPanic ?_
        refine wp_region_held_drew (S := fun W => W.cell? ⟨g5, 0, none⟩ = some (.int .i64 7) ∧ W.cell? ⟨g5, 1, none⟩ = some (.slice (some ⟨b, off, none⟩) m d) ∧ W.cell? ⟨gc, 1, none⟩ = some (.int .i64 num) ∧ W.cell? ⟨gc, 2, none⟩ = some (.int .i64 kids) ∧ W.cell? ⟨b, off, none⟩ = some (.string x)) (by kernel_rfl) ⟨fd0, fd1, fd2, fd3, fd4⟩ (fun _ => ?_)
        generalize w2.drew = wd at *
        try simp only [Act.put, List.setIfInBounds_toArray, List.set_cons_zero, List.set_cons_succ]
        refine wpAnyH_take (i := 0) (oi := { dst := some 12, op := Op.fieldAddr 115 (Operand.tmp 8) 0, type := 0, pos := "match.go:101", after := #[], guard := none }) (v := ?_) rfl (by kernel_rfl) (by kernel_rfl) (by kernel_rfl) (fun _ _ _ h => h) (Or.inl ⟨by rfl, ?_⟩) ⟨fd0, fd1, fd2, fd3, fd4⟩ ?_
        rotate_left 1
        · intro w hSw
          obtain ⟨hSw0, hSw1, hSw2, hSw3, hSw4⟩ := hSw
          go_simp
          first
            | done
            | with_reducible rfl
            | rw [if_neg (by omega)]
        try simp only [Act.put, List.setIfInBounds_toArray, List.set_cons_zero, List.set_cons_succ]
        refine wpAnyH_take (i := 1) (oi := { dst := some 13, op := Op.load 3 (Operand.tmp 12), type := 3, pos := "match.go:101", after := #[{ on := 0, ground := Ground.data }], guard := none }) (v := ?_) rfl (by kernel_rfl) (by kernel_rfl) (by kernel_rfl) (fun _ _ _ h => h) (Or.inl ⟨by rfl, ?_⟩) ⟨fd0, fd1, fd2, fd3, fd4⟩ ?_
        rotate_left 1
        · intro w hSw
          obtain ⟨hSw0, hSw1, hSw2, hSw3, hSw4⟩ := hSw
          go_simp
          first
            | done
            | with_reducible rfl
            | rw [if_neg (by omega)]
        try simp only [Act.put, List.setIfInBounds_toArray, List.set_cons_zero, List.set_cons_succ]
        refine wpAnyH_take (i := 2) (oi := { dst := some 14, op := Op.binOp BinOp.neq 3 (Operand.tmp 13) (Operand.const (Value.int IntKind.i64 7)) 3, type := 4, pos := "match.go:101", after := #[{ on := 1, ground := Ground.data }], guard := none }) (v := ?_) rfl (by kernel_rfl) (by kernel_rfl) (by kernel_rfl) (fun _ _ _ h => h) (Or.inl ⟨by rfl, ?_⟩) ⟨fd0, fd1, fd2, fd3, fd4⟩ ?_
        rotate_left 1
        · intro w hSw
          obtain ⟨hSw0, hSw1, hSw2, hSw3, hSw4⟩ := hSw
          go_simp
          first
            | done
            | with_reducible rfl
            | rw [if_neg (by omega)]
        try simp only [Act.put, List.setIfInBounds_toArray, List.set_cons_zero, List.set_cons_succ]
        refine wpAnyH_take (i := 3) (oi := { dst := some 15, op := Op.move (Operand.tmp 14), type := 4, pos := "match.go:101", after := #[{ on := 2, ground := Ground.data }], guard := none }) (v := ?_) rfl (by kernel_rfl) (by kernel_rfl) (by kernel_rfl) (fun _ _ _ h => h) (Or.inl ⟨by rfl, ?_⟩) ⟨fd0, fd1, fd2, fd3, fd4⟩ ?_
        rotate_left 1
        · intro w hSw
          obtain ⟨hSw0, hSw1, hSw2, hSw3, hSw4⟩ := hSw
          go_simp
          first
            | done
            | with_reducible rfl
            | rw [if_neg (by omega)]
        try simp only [Act.put, List.setIfInBounds_toArray, List.set_cons_zero, List.set_cons_succ]
        refine wpAnyH_take (i := 4) (oi := { dst := some 16, op := Op.fieldAddr 115 (Operand.tmp 8) 1, type := 0, pos := "match.go:101", after := #[{ on := 3, ground := Ground.guard }], guard := some (3, false) }) (v := ?_) rfl (by kernel_rfl) (by kernel_rfl) (by kernel_rfl) (fun _ _ _ h => h) (Or.inl ⟨by rfl, ?_⟩) ⟨fd0, fd1, fd2, fd3, fd4⟩ ?_
        rotate_left 1
        · intro w hSw
          obtain ⟨hSw0, hSw1, hSw2, hSw3, hSw4⟩ := hSw
          go_simp
          first
            | done
            | with_reducible rfl
            | rw [if_neg (by omega)]
        try simp only [Act.put, List.setIfInBounds_toArray, List.set_cons_zero, List.set_cons_succ]
        refine wpAnyH_take (i := 5) (oi := { dst := some 17, op := Op.load 24 (Operand.tmp 16), type := 24, pos := "match.go:101", after := #[{ on := 4, ground := Ground.data }, { on := 3, ground := Ground.guard }], guard := some (3, false) }) (v := ?_) rfl (by kernel_rfl) (by kernel_rfl) (by kernel_rfl) (fun _ _ _ h => h) (Or.inl ⟨by rfl, ?_⟩) ⟨fd0, fd1, fd2, fd3, fd4⟩ ?_
        rotate_left 1
        · intro w hSw
          obtain ⟨hSw0, hSw1, hSw2, hSw3, hSw4⟩ := hSw
          go_simp
          first
            | done
            | with_reducible rfl
            | rw [if_neg (by omega)]
        try simp only [Act.put, List.setIfInBounds_toArray, List.set_cons_zero, List.set_cons_succ]
        refine wpAnyH_take (i := 6) (oi := { dst := some 18, op := Op.call { callee := Callee.builtin Builtin.len, args := #[Operand.tmp 17], argTypes := #[24] }, type := 3, pos := "match.go:101", after := #[{ on := 5, ground := Ground.data }, { on := 3, ground := Ground.guard }], guard := some (3, false) }) (v := ?_) rfl (by kernel_rfl) (by kernel_rfl) (by kernel_rfl) (fun _ _ _ h => h) (Or.inl ⟨by rfl, ?_⟩) ⟨fd0, fd1, fd2, fd3, fd4⟩ ?_
        rotate_left 1
        · intro w hSw
          obtain ⟨hSw0, hSw1, hSw2, hSw3, hSw4⟩ := hSw
          go_simp
          first
            | done
            | with_reducible rfl
            | rw [if_neg (by omega)]
        try simp only [Act.put, List.setIfInBounds_toArray, List.set_cons_zero, List.set_cons_succ]
        refine wpAnyH_take (i := 7) (oi := { dst := some 19, op := Op.binOp BinOp.sub 3 (Operand.tmp 18) (Operand.const (Value.int IntKind.i64 1)) 3, type := 3, pos := "match.go:101", after := #[{ on := 6, ground := Ground.data }, { on := 3, ground := Ground.guard }], guard := some (3, false) }) (v := .int .i64 ((m : Int) - 1)) rfl (by kernel_rfl) (by kernel_rfl) (by kernel_rfl) (fun _ _ _ h => h) (Or.inl ⟨by rfl, ?_⟩) ⟨fd0, fd1, fd2, fd3, fd4⟩ ?_
        · intro w hSw
          go_simp
          first
            | done
            | exact g2w
            | done
            | with_reducible rfl
            | rw [g2w]
            | simp [g2w]
        try simp only [Act.put, List.setIfInBounds_toArray, List.set_cons_zero, List.set_cons_succ]
        refine wpAnyH_take (i := 8) (oi := { dst := some 20, op := Op.fieldAddr 27 (Operand.tmp 4) 2, type := 0, pos := "match.go:101", after := #[{ on := 3, ground := Ground.guard }], guard := some (3, false) }) (v := ?_) rfl (by kernel_rfl) (by kernel_rfl) (by kernel_rfl) (fun _ _ _ h => h) (Or.inl ⟨by rfl, ?_⟩) ⟨fd0, fd1, fd2, fd3, fd4⟩ ?_
        rotate_left 1
        · intro w hSw
          obtain ⟨hSw0, hSw1, hSw2, hSw3, hSw4⟩ := hSw
          go_simp
          first
            | done
            | with_reducible rfl
            | rw [if_neg (by omega)]
        try simp only [Act.put, List.setIfInBounds_toArray, List.set_cons_zero, List.set_cons_succ]
        refine wpAnyH_take (i := 9) (oi := { dst := some 21, op := Op.load 3 (Operand.tmp 20), type := 3, pos := "match.go:101", after := #[{ on := 8, ground := Ground.data }, { on := 3, ground := Ground.guard }], guard := some (3, false) }) (v := ?_) rfl (by kernel_rfl) (by kernel_rfl) (by kernel_rfl) (fun _ _ _ h => h) (Or.inl ⟨by rfl, ?_⟩) ⟨fd0, fd1, fd2, fd3, fd4⟩ ?_
        rotate_left 1
        · intro w hSw
          obtain ⟨hSw0, hSw1, hSw2, hSw3, hSw4⟩ := hSw
          go_simp
          first
            | done
            | with_reducible rfl
            | rw [if_neg (by omega)]
        try simp only [Act.put, List.setIfInBounds_toArray, List.set_cons_zero, List.set_cons_succ]
        refine wpAnyH_take (i := 10) (oi := { dst := some 22, op := Op.binOp BinOp.neq 3 (Operand.tmp 19) (Operand.tmp 21) 3, type := 4, pos := "match.go:101", after := #[{ on := 7, ground := Ground.data }, { on := 9, ground := Ground.data }, { on := 3, ground := Ground.guard }], guard := some (3, false) }) (v := .bool false) rfl (by kernel_rfl) (by kernel_rfl) (by kernel_rfl) (fun _ _ _ h => h) (Or.inl ⟨by rfl, ?_⟩) ⟨fd0, fd1, fd2, fd3, fd4⟩ ?_
        · intro w hSw
          go_simp
          first
            | done
            | exact g3b
            | done
            | with_reducible rfl
            | rw [g3b]
            | simp [g3b]
        try simp only [Act.put, List.setIfInBounds_toArray, List.set_cons_zero, List.set_cons_succ]
        refine wpAnyH_take (i := 11) (oi := { dst := some 23, op := Op.pick (Operand.tmp 15) (Operand.const (Value.bool true)) (Operand.tmp 22), type := 4, pos := "match.go:101", after := #[{ on := 3, ground := Ground.data }, { on := 10, ground := Ground.data }], guard := none }) (v := ?_) rfl (by kernel_rfl) (by kernel_rfl) (by kernel_rfl) (fun _ _ _ h => h) (Or.inl ⟨by rfl, ?_⟩) ⟨fd0, fd1, fd2, fd3, fd4⟩ ?_
        rotate_left 1
        · intro w hSw
          obtain ⟨hSw0, hSw1, hSw2, hSw3, hSw4⟩ := hSw
          go_simp
          first
            | done
            | with_reducible rfl
            | rw [if_neg (by omega)]
        try simp only [Act.put, List.setIfInBounds_toArray, List.set_cons_zero, List.set_cons_succ]
        refine wpAnyH_take (i := 12) (oi := { dst := some 24, op := Op.move (Operand.tmp 23), type := 4, pos := "match.go:101", after := #[{ on := 11, ground := Ground.data }, { on := 3, ground := Ground.chain }], guard := none }) (v := ?_) rfl (by kernel_rfl) (by kernel_rfl) (by kernel_rfl) (fun _ _ _ h => h) (Or.inl ⟨by rfl, ?_⟩) ⟨fd0, fd1, fd2, fd3, fd4⟩ ?_
        rotate_left 1
        · intro w hSw
          obtain ⟨hSw0, hSw1, hSw2, hSw3, hSw4⟩ := hSw
          go_simp
          first
            | done
            | with_reducible rfl
            | rw [if_neg (by omega)]
        try simp only [Act.put, List.setIfInBounds_toArray, List.set_cons_zero, List.set_cons_succ]
        refine wpAnyH_take (i := 13) (oi := { dst := some 25, op := Op.fieldAddr 115 (Operand.tmp 8) 1, type := 0, pos := "match.go:101", after := #[{ on := 12, ground := Ground.guard }], guard := some (12, false) }) (v := ?_) rfl (by kernel_rfl) (by kernel_rfl) (by kernel_rfl) (fun _ _ _ h => h) (Or.inl ⟨by rfl, ?_⟩) ⟨fd0, fd1, fd2, fd3, fd4⟩ ?_
        rotate_left 1
        · intro w hSw
          obtain ⟨hSw0, hSw1, hSw2, hSw3, hSw4⟩ := hSw
          go_simp
          first
            | done
            | with_reducible rfl
            | rw [if_neg (by omega)]
        try simp only [Act.put, List.setIfInBounds_toArray, List.set_cons_zero, List.set_cons_succ]
        refine wpAnyH_take (i := 14) (oi := { dst := some 26, op := Op.load 24 (Operand.tmp 25), type := 24, pos := "match.go:101", after := #[{ on := 13, ground := Ground.data }, { on := 12, ground := Ground.guard }], guard := some (12, false) }) (v := ?_) rfl (by kernel_rfl) (by kernel_rfl) (by kernel_rfl) (fun _ _ _ h => h) (Or.inl ⟨by rfl, ?_⟩) ⟨fd0, fd1, fd2, fd3, fd4⟩ ?_
        rotate_left 1
        · intro w hSw
          obtain ⟨hSw0, hSw1, hSw2, hSw3, hSw4⟩ := hSw
          go_simp
          first
            | done
            | with_reducible rfl
            | rw [if_neg (by omega)]
        try simp only [Act.put, List.setIfInBounds_toArray, List.set_cons_zero, List.set_cons_succ]
        refine wpAnyH_take (i := 15) (oi := { dst := some 27, op := Op.indexAddr 24 (Operand.tmp 26) (Operand.const (Value.int IntKind.i64 0)), type := 0, pos := "match.go:101", after := #[{ on := 14, ground := Ground.data }, { on := 12, ground := Ground.guard }], guard := some (12, false) }) (v := .pointer (some ⟨b, off, none⟩)) rfl (by kernel_rfl) (by kernel_rfl) (by kernel_rfl) (fun _ _ _ h => h) (Or.inl ⟨by rfl, ?_⟩) ⟨fd0, fd1, fd2, fd3, fd4⟩ ?_
        · intro w hSw
          go_simp
          first
            | done
            | (intro q; omega)
            | (rw [if_pos (by omega)]; rfl)
            | (rw [if_pos (by omega)]; simp)
        try simp only [Act.put, List.setIfInBounds_toArray, List.set_cons_zero, List.set_cons_succ]
        refine wpAnyH_take (i := 16) (oi := { dst := some 28, op := Op.load 23 (Operand.tmp 27), type := 23, pos := "match.go:101", after := #[{ on := 15, ground := Ground.data }, { on := 12, ground := Ground.guard }], guard := some (12, false) }) (v := ?_) rfl (by kernel_rfl) (by kernel_rfl) (by kernel_rfl) (fun _ _ _ h => h) (Or.inl ⟨by rfl, ?_⟩) ⟨fd0, fd1, fd2, fd3, fd4⟩ ?_
        rotate_left 1
        · intro w hSw
          obtain ⟨hSw0, hSw1, hSw2, hSw3, hSw4⟩ := hSw
          go_simp
          first
            | done
            | with_reducible rfl
            | rw [if_neg (by omega)]
        try simp only [Act.put, List.setIfInBounds_toArray, List.set_cons_zero, List.set_cons_succ]
        refine wpAnyH_take (i := 18) (oi := { dst := some 30, op := Op.fieldAddr 27 (Operand.tmp 4) 1, type := 0, pos := "match.go:101", after := #[{ on := 12, ground := Ground.guard }], guard := some (12, false) }) (v := ?_) rfl (by kernel_rfl) (by kernel_rfl) (by kernel_rfl) (fun _ _ _ h => h) (Or.inl ⟨by rfl, ?_⟩) ⟨fd0, fd1, fd2, fd3, fd4⟩ ?_
        rotate_left 1
        · intro w hSw
          obtain ⟨hSw0, hSw1, hSw2, hSw3, hSw4⟩ := hSw
          go_simp
          first
            | done
            | with_reducible rfl
            | rw [if_neg (by omega)]
        try simp only [Act.put, List.setIfInBounds_toArray, List.set_cons_zero, List.set_cons_succ]
        refine wpAnyH_take (i := 19) (oi := { dst := some 31, op := Op.load 2 (Operand.tmp 30), type := 2, pos := "match.go:101", after := #[{ on := 18, ground := Ground.data }, { on := 12, ground := Ground.guard }], guard := some (12, false) }) (v := ?_) rfl (by kernel_rfl) (by kernel_rfl) (by kernel_rfl) (fun _ _ _ h => h) (Or.inl ⟨by rfl, ?_⟩) ⟨fd0, fd1, fd2, fd3, fd4⟩ ?_
        rotate_left 1
        · intro w hSw
          obtain ⟨hSw0, hSw1, hSw2, hSw3, hSw4⟩ := hSw
          go_simp
          first
            | done
            | with_reducible rfl
            | rw [if_neg (by omega)]
        try simp only [Act.put, List.setIfInBounds_toArray, List.set_cons_zero, List.set_cons_succ]
        refine wpAnyH_ready (rs := [17]) (by kernel_rfl) (by simp) ?_
        refine AllReadyH.cons (o := { dst := some 29, op := Op.call { callee := Callee.value (Operand.func 97), args := #[Operand.tmp 28], argTypes := #[23] }, type := 2, pos := "match.go:101", after := #[{ on := 16, ground := Ground.data }, { on := 12, ground := Ground.chain }, { on := 12, ground := Ground.guard }], guard := some (12, false) }) rfl (fun K hK => ?_) AllReadyH.nil
        go_simp
        go_at_call 97
        refine (HN2.out).mono ?_
        rintro e w502 ⟨rfl, hbz⟩
        have HBZ := hide ((unhide hbw).trans (hbz.mono (unhide hbw).size))
        try dsimp only
        refine hK.out _ _ ⟨hide (cell_down hbz (unhide fd0)), hide (cell_down hbz (unhide fd1)), hide (cell_down hbz (unhide fd2)), hide (cell_down hbz (unhide fd3)), hide (cell_down hbz (unhide fd4))⟩ (fun _ => ?_)
        clear hK K
        try simp only [Act.put, List.setIfInBounds_toArray, List.set_cons_zero, List.set_cons_succ]
        refine wpAnyH_take (i := 20) (oi := { dst := some 32, op := Op.binOp BinOp.neq 2 (Operand.tmp 29) (Operand.tmp 31) 2, type := 4, pos := "match.go:101", after := #[{ on := 17, ground := Ground.data }, { on := 19, ground := Ground.data }, { on := 12, ground := Ground.guard }], guard := some (12, false) }) (v := .bool true) rfl (by kernel_rfl) (by kernel_rfl) (by kernel_rfl) (fun _ _ _ h => h) (Or.inl ⟨by rfl, ?_⟩) ⟨hide (cell_down hbz (unhide fd0)), hide (cell_down hbz (unhide fd1)), hide (cell_down hbz (unhide fd2)), hide (cell_down hbz (unhide fd3)), hide (cell_down hbz (unhide fd4))⟩ ?_
        · intro w hSw
          go_simp
          first
            | done
            | exact g4b
            | done
            | with_reducible rfl
            | rw [g4b]
            | simp [g4b]
        try simp only [Act.put, List.setIfInBounds_toArray, List.set_cons_zero, List.set_cons_succ]
        refine wpAnyH_take (i := 21) (oi := { dst := some 33, op := Op.pick (Operand.tmp 24) (Operand.const (Value.bool true)) (Operand.tmp 32), type := 4, pos := "match.go:101", after := #[{ on := 12, ground := Ground.data }, { on := 20, ground := Ground.data }], guard := none }) (v := ?_) rfl (by kernel_rfl) (by kernel_rfl) (by kernel_rfl) (fun _ _ _ h => h) (Or.inl ⟨by rfl, ?_⟩) ⟨hide (cell_down hbz (unhide fd0)), hide (cell_down hbz (unhide fd1)), hide (cell_down hbz (unhide fd2)), hide (cell_down hbz (unhide fd3)), hide (cell_down hbz (unhide fd4))⟩ ?_
        rotate_left 1
        · intro w hSw
          obtain ⟨hSw0, hSw1, hSw2, hSw3, hSw4⟩ := hSw
          go_simp
          first
            | done
            | with_reducible rfl
            | rw [if_neg (by omega)]
        try simp only [Act.put, List.setIfInBounds_toArray, List.set_cons_zero, List.set_cons_succ]
        refine wpAnyH_done (by kernel_rfl) ?_ _
        refine NoPanic.normal ?_
        go_wp2_with fail
        go_ret2
        exact ⟨none, 0, 0, es', by rw [HH.out]; rfl, fun l hl => (by rw [HH.out] at hl; cases hl), (unhide HS).below (unhide HBZ), (unhide HST).trans (.below vv (unhide HBZ))⟩
    · have g3 : ((m : Int) - 1 == kids) = false := beq_eq_false_iff_ne.2 h2
      have g3b : ((m : Int) - 1 != kids) = true := by simpa using h2
      have HH : Hid (r = none) := Lib.hid (by rw [HE.out]; exact if_neg fun q => by have := HM1.out; have := q.2.1; omega)
      clear HE h2
      go_wp2_with fail
      simp only [← hw2, hg5.out, hgc.out] at hk0 hk1 hc1 hc2 ⊢
      have hbw := hide (below_drew (unhide HB2))
      clear hw2 HB2
      have fd0 : Hid (w2.drew.cell? ⟨g5, 0, none⟩ = some (.int .i64 7)) := hide hk0
      have fd1 : Hid (w2.drew.cell? ⟨g5, 1, none⟩ = some (.slice (some ⟨b, off, none⟩) m d)) := hide hk1
      have fd2 : Hid (w2.drew.cell? ⟨gc, 1, none⟩ = some (.int .i64 num)) := hide hc1
      have fd3 : Hid (w2.drew.cell? ⟨gc, 2, none⟩ = some (.int .i64 kids)) := hide hc2
      have fd4 : Hid (w2.drew.cell? ⟨b, off, none⟩ = some (.string x)) := hide hcb
      refine wp_region_noPanic ?_
      refine wp_region_held_drew (S := fun W => W.cell? ⟨g5, 0, none⟩ = some (.int .i64 7) ∧ W.cell? ⟨g5, 1, none⟩ = some (.slice (some ⟨b, off, none⟩) m d) ∧ W.cell? ⟨gc, 1, none⟩ = some (.int .i64 num) ∧ W.cell? ⟨gc, 2, none⟩ = some (.int .i64 kids) ∧ W.cell? ⟨b, off, none⟩ = some (.string x)) (by kernel_rfl) ⟨fd0, fd1, fd2, fd3, fd4⟩ (fun _ => ?_)
      generalize w2.drew = wd at *
      try simp only [Act.put, List.setIfInBounds_toArray, List.set_cons_zero, List.set_cons_succ]
      refine wpAnyH_take (i := 0) (oi := { dst := some 12, op := Op.fieldAddr 115 (Operand.tmp 8) 0, type := 0, pos := "match.go:101", after := #[], guard := none }) (v := ?_) rfl (by kernel_rfl) (by kernel_rfl) (by kernel_rfl) (fun _ _ _ h => h) (Or.inl ⟨by rfl, ?_⟩) ⟨fd0, fd1, fd2, fd3, fd4⟩ ?_
      rotate_left 1
      · intro w hSw
        obtain ⟨hSw0, hSw1, hSw2, hSw3, hSw4⟩ := hSw
        go_simp
        first
          | done
          | with_reducible rfl
          | rw [if_neg (by omega)]
      try simp only [Act.put, List.setIfInBounds_toArray, List.set_cons_zero, List.set_cons_succ]
      refine wpAnyH_take (i := 1) (oi := { dst := some 13, op := Op.load 3 (Operand.tmp 12), type := 3, pos := "match.go:101", after := #[{ on := 0, ground := Ground.data }], guard := none }) (v := ?_) rfl (by kernel_rfl) (by kernel_rfl) (by kernel_rfl) (fun _ _ _ h => h) (Or.inl ⟨by rfl, ?_⟩) ⟨fd0, fd1, fd2, fd3, fd4⟩ ?_
      rotate_left 1
      · intro w hSw
        obtain ⟨hSw0, hSw1, hSw2, hSw3, hSw4⟩ := hSw
        go_simp
        first
          | done
          | with_reducible rfl
          | rw [if_neg (by omega)]
      try simp only [Act.put, List.setIfInBounds_toArray, List.set_cons_zero, List.set_cons_succ]
      refine wpAnyH_take (i := 2) (oi := { dst := some 14, op := Op.binOp BinOp.neq 3 (Operand.tmp 13) (Operand.const (Value.int IntKind.i64 7)) 3, type := 4, pos := "match.go:101", after := #[{ on := 1, ground := Ground.data }], guard := none }) (v := ?_) rfl (by kernel_rfl) (by kernel_rfl) (by kernel_rfl) (fun _ _ _ h => h) (Or.inl ⟨by rfl, ?_⟩) ⟨fd0, fd1, fd2, fd3, fd4⟩ ?_
      rotate_left 1
      · intro w hSw
        obtain ⟨hSw0, hSw1, hSw2, hSw3, hSw4⟩ := hSw
        go_simp
        first
          | done
          | with_reducible rfl
          | rw [if_neg (by omega)]
      try simp only [Act.put, List.setIfInBounds_toArray, List.set_cons_zero, List.set_cons_succ]
      refine wpAnyH_take (i := 3) (oi := { dst := some 15, op := Op.move (Operand.tmp 14), type := 4, pos := "match.go:101", after := #[{ on := 2, ground := Ground.data }], guard := none }) (v := ?_) rfl (by kernel_rfl) (by kernel_rfl) (by kernel_rfl) (fun _ _ _ h => h) (Or.inl ⟨by rfl, ?_⟩) ⟨fd0, fd1, fd2, fd3, fd4⟩ ?_
      rotate_left 1
      · intro w hSw
        obtain ⟨hSw0, hSw1, hSw2, hSw3, hSw4⟩ := hSw
        go_simp
        first
          | done
          | with_reducible rfl
          | rw [if_neg (by omega)]
      try simp only [Act.put, List.setIfInBounds_toArray, List.set_cons_zero, List.set_cons_succ]
      refine wpAnyH_take (i := 4) (oi := { dst := some 16, op := Op.fieldAddr 115 (Operand.tmp 8) 1, type := 0, pos := "match.go:101", after := #[{ on := 3, ground := Ground.guard }], guard := some (3, false) }) (v := ?_) rfl (by kernel_rfl) (by kernel_rfl) (by kernel_rfl) (fun _ _ _ h => h) (Or.inl ⟨by rfl, ?_⟩) ⟨fd0, fd1, fd2, fd3, fd4⟩ ?_
      rotate_left 1
      · intro w hSw
        obtain ⟨hSw0, hSw1, hSw2, hSw3, hSw4⟩ := hSw
        go_simp
        first
          | done
          | with_reducible rfl
          | rw [if_neg (by omega)]
      try simp only [Act.put, List.setIfInBounds_toArray, List.set_cons_zero, List.set_cons_succ]
      refine wpAnyH_take (i := 5) (oi := { dst := some 17, op := Op.load 24 (Operand.tmp 16), type := 24, pos := "match.go:101", after := #[{ on := 4, ground := Ground.data }, { on := 3, ground := Ground.guard }], guard := some (3, false) }) (v := ?_) rfl (by kernel_rfl) (by kernel_rfl) (by kernel_rfl) (fun _ _ _ h => h) (Or.inl ⟨by rfl, ?_⟩) ⟨fd0, fd1, fd2, fd3, fd4⟩ ?_
      rotate_left 1
      · intro w hSw
        obtain ⟨hSw0, hSw1, hSw2, hSw3, hSw4⟩ := hSw
        go_simp
        first
          | done
          | with_reducible rfl
          | rw [if_neg (by omega)]
      try simp only [Act.put, List.setIfInBounds_toArray, List.set_cons_zero, List.set_cons_succ]
      refine wpAnyH_take (i := 6) (oi := { dst := some 18, op := Op.call { callee := Callee.builtin Builtin.len, args := #[Operand.tmp 17], argTypes := #[24] }, type := 3, pos := "match.go:101", after := #[{ on := 5, ground := Ground.data }, { on := 3, ground := Ground.guard }], guard := some (3, false) }) (v := ?_) rfl (by kernel_rfl) (by kernel_rfl) (by kernel_rfl) (fun _ _ _ h => h) (Or.inl ⟨by rfl, ?_⟩) ⟨fd0, fd1, fd2, fd3, fd4⟩ ?_
      rotate_left 1
      · intro w hSw
        obtain ⟨hSw0, hSw1, hSw2, hSw3, hSw4⟩ := hSw
        go_simp
        first
          | done
          | with_reducible rfl
          | rw [if_neg (by omega)]
      try simp only [Act.put, List.setIfInBounds_toArray, List.set_cons_zero, List.set_cons_succ]
      refine wpAnyH_take (i := 7) (oi := { dst := some 19, op := Op.binOp BinOp.sub 3 (Operand.tmp 18) (Operand.const (Value.int IntKind.i64 1)) 3, type := 3, pos := "match.go:101", after := #[{ on := 6, ground := Ground.data }, { on := 3, ground := Ground.guard }], guard := some (3, false) }) (v := .int .i64 ((m : Int) - 1)) rfl (by kernel_rfl) (by kernel_rfl) (by kernel_rfl) (fun _ _ _ h => h) (Or.inl ⟨by rfl, ?_⟩) ⟨fd0, fd1, fd2, fd3, fd4⟩ ?_
      · intro w hSw
        go_simp
        first
          | done
          | exact g2w
          | done
          | with_reducible rfl
          | rw [g2w]
          | simp [g2w]
      try simp only [Act.put, List.setIfInBounds_toArray, List.set_cons_zero, List.set_cons_succ]
      refine wpAnyH_take (i := 8) (oi := { dst := some 20, op := Op.fieldAddr 27 (Operand.tmp 4) 2, type := 0, pos := "match.go:101", after := #[{ on := 3, ground := Ground.guard }], guard := some (3, false) }) (v := ?_) rfl (by kernel_rfl) (by kernel_rfl) (by kernel_rfl) (fun _ _ _ h => h) (Or.inl ⟨by rfl, ?_⟩) ⟨fd0, fd1, fd2, fd3, fd4⟩ ?_
      rotate_left 1
      · intro w hSw
        obtain ⟨hSw0, hSw1, hSw2, hSw3, hSw4⟩ := hSw
        go_simp
        first
          | done
          | with_reducible rfl
          | rw [if_neg (by omega)]
      try simp only [Act.put, List.setIfInBounds_toArray, List.set_cons_zero, List.set_cons_succ]
      refine wpAnyH_take (i := 9) (oi := { dst := some 21, op := Op.load 3 (Operand.tmp 20), type := 3, pos := "match.go:101", after := #[{ on := 8, ground := Ground.data }, { on := 3, ground := Ground.guard }], guard := some (3, false) }) (v := ?_) rfl (by kernel_rfl) (by kernel_rfl) (by kernel_rfl) (fun _ _ _ h => h) (Or.inl ⟨by rfl, ?_⟩) ⟨fd0, fd1, fd2, fd3, fd4⟩ ?_
      rotate_left 1
      · intro w hSw
        obtain ⟨hSw0, hSw1, hSw2, hSw3, hSw4⟩ := hSw
        go_simp
        first
          | done
          | with_reducible rfl
          | rw [if_neg (by omega)]
      try simp only [Act.put, List.setIfInBounds_toArray, List.set_cons_zero, List.set_cons_succ]
      refine wpAnyH_take (i := 10) (oi := { dst := some 22, op := Op.binOp BinOp.neq 3 (Operand.tmp 19) (Operand.tmp 21) 3, type := 4, pos := "match.go:101", after := #[{ on := 7, ground := Ground.data }, { on := 9, ground := Ground.data }, { on := 3, ground := Ground.guard }], guard := some (3, false) }) (v := .bool true) rfl (by kernel_rfl) (by kernel_rfl) (by kernel_rfl) (fun _ _ _ h => h) (Or.inl ⟨by rfl, ?_⟩) ⟨fd0, fd1, fd2, fd3, fd4⟩ ?_
      · intro w hSw
        go_simp
        first
          | done
          | exact g3b
          | done
          | with_reducible rfl
          | rw [g3b]
          | simp [g3b]
      try simp only [Act.put, List.setIfInBounds_toArray, List.set_cons_zero, List.set_cons_succ]
      refine wpAnyH_take (i := 11) (oi := { dst := some 23, op := Op.pick (Operand.tmp 15) (Operand.const (Value.bool true)) (Operand.tmp 22), type := 4, pos := "match.go:101", after := #[{ on := 3, ground := Ground.data }, { on := 10, ground := Ground.data }], guard := none }) (v := ?_) rfl (by kernel_rfl) (by kernel_rfl) (by kernel_rfl) (fun _ _ _ h => h) (Or.inl ⟨by rfl, ?_⟩) ⟨fd0, fd1, fd2, fd3, fd4⟩ ?_
      rotate_left 1
      · intro w hSw
        obtain ⟨hSw0, hSw1, hSw2, hSw3, hSw4⟩ := hSw
        go_simp
        first
          | done
          | with_reducible rfl
          | rw [if_neg (by omega)]
      try simp only [Act.put, List.setIfInBounds_toArray, List.set_cons_zero, List.set_cons_succ]
      refine wpAnyH_take (i := 12) (oi := { dst := some 24, op := Op.move (Operand.tmp 23), type := 4, pos := "match.go:101", after := #[{ on := 11, ground := Ground.data }, { on := 3, ground := Ground.chain }], guard := none }) (v := ?_) rfl (by kernel_rfl) (by kernel_rfl) (by kernel_rfl) (fun _ _ _ h => h) (Or.inl ⟨by rfl, ?_⟩) ⟨fd0, fd1, fd2, fd3, fd4⟩ ?_
      rotate_left 1
      · intro w hSw
        obtain ⟨hSw0, hSw1, hSw2, hSw3, hSw4⟩ := hSw
        go_simp
        first
          | done
          | with_reducible rfl
          | rw [if_neg (by omega)]
      try simp only [Act.put, List.setIfInBounds_toArray, List.set_cons_zero, List.set_cons_succ]
      refine wpAnyH_take (i := 13) (oi := { dst := some 25, op := Op.fieldAddr 115 (Operand.tmp 8) 1, type := 0, pos := "match.go:101", after := #[{ on := 12, ground := Ground.guard }], guard := some (12, false) }) (v := undef) rfl (by kernel_rfl) (by kernel_rfl) (by kernel_rfl) (fun _ _ _ h => h) (Or.inr ⟨by rfl, rfl⟩) ⟨fd0, fd1, fd2, fd3, fd4⟩ ?_
      try simp only [Act.put, List.setIfInBounds_toArray, List.set_cons_zero, List.set_cons_succ]
      refine wpAnyH_take (i := 14) (oi := { dst := some 26, op := Op.load 24 (Operand.tmp 25), type := 24, pos := "match.go:101", after := #[{ on := 13, ground := Ground.data }, { on := 12, ground := Ground.guard }], guard := some (12, false) }) (v := undef) rfl (by kernel_rfl) (by kernel_rfl) (by kernel_rfl) (fun _ _ _ h => h) (Or.inr ⟨by rfl, rfl⟩) ⟨fd0, fd1, fd2, fd3, fd4⟩ ?_
      try simp only [Act.put, List.setIfInBounds_toArray, List.set_cons_zero, List.set_cons_succ]
      refine wpAnyH_take (i := 15) (oi := { dst := some 27, op := Op.indexAddr 24 (Operand.tmp 26) (Operand.const (Value.int IntKind.i64 0)), type := 0, pos := "match.go:101", after := #[{ on := 14, ground := Ground.data }, { on := 12, ground := Ground.guard }], guard := some (12, false) }) (v := undef) rfl (by kernel_rfl) (by kernel_rfl) (by kernel_rfl) (fun _ _ _ h => h) (Or.inr ⟨by rfl, rfl⟩) ⟨fd0, fd1, fd2, fd3, fd4⟩ ?_
      try simp only [Act.put, List.setIfInBounds_toArray, List.set_cons_zero, List.set_cons_succ]
      refine wpAnyH_take (i := 16) (oi := { dst := some 28, op := Op.load 23 (Operand.tmp 27), type := 23, pos := "match.go:101", after := #[{ on := 15, ground := Ground.data }, { on := 12, ground := Ground.guard }], guard := some (12, false) }) (v := undef) rfl (by kernel_rfl) (by kernel_rfl) (by kernel_rfl) (fun _ _ _ h => h) (Or.inr ⟨by rfl, rfl⟩) ⟨fd0, fd1, fd2, fd3, fd4⟩ ?_
      try simp only [Act.put, List.setIfInBounds_toArray, List.set_cons_zero, List.set_cons_succ]
      refine wpAnyH_take (i := 17) (oi := { dst := some 29, op := Op.call { callee := Callee.value (Operand.func 97), args := #[Operand.tmp 28], argTypes := #[23] }, type := 2, pos := "match.go:101", after := #[{ on := 16, ground := Ground.data }, { on := 12, ground := Ground.chain }, { on := 12, ground := Ground.guard }], guard := some (12, false) }) (v := undef) rfl (by kernel_rfl) (by kernel_rfl) (by kernel_rfl) (fun _ _ _ h => h) (Or.inr ⟨by rfl, rfl⟩) ⟨fd0, fd1, fd2, fd3, fd4⟩ ?_
      try simp only [Act.put, List.setIfInBounds_toArray, List.set_cons_zero, List.set_cons_succ]
      refine wpAnyH_take (i := 18) (oi := { dst := some 30, op := Op.fieldAddr 27 (Operand.tmp 4) 1, type := 0, pos := "match.go:101", after := #[{ on := 12, ground := Ground.guard }], guard := some (12, false) }) (v := undef) rfl (by kernel_rfl) (by kernel_rfl) (by kernel_rfl) (fun _ _ _ h => h) (Or.inr ⟨by rfl, rfl⟩) ⟨fd0, fd1, fd2, fd3, fd4⟩ ?_
      try simp only [Act.put, List.setIfInBounds_toArray, List.set_cons_zero, List.set_cons_succ]
      refine wpAnyH_take (i := 19) (oi := { dst := some 31, op := Op.load 2 (Operand.tmp 30), type := 2, pos := "match.go:101", after := #[{ on := 18, ground := Ground.data }, { on := 12, ground := Ground.guard }], guard := some (12, false) }) (v := undef) rfl (by kernel_rfl) (by kernel_rfl) (by kernel_rfl) (fun _ _ _ h => h) (Or.inr ⟨by rfl, rfl⟩) ⟨fd0, fd1, fd2, fd3, fd4⟩ ?_
      try simp only [Act.put, List.setIfInBounds_toArray, List.set_cons_zero, List.set_cons_succ]
      refine wpAnyH_take (i := 20) (oi := { dst := some 32, op := Op.binOp BinOp.neq 2 (Operand.tmp 29) (Operand.tmp 31) 2, type := 4, pos := "match.go:101", after := #[{ on := 17, ground := Ground.data }, { on := 19, ground := Ground.data }, { on := 12, ground := Ground.guard }], guard := some (12, false) }) (v := undef) rfl (by kernel_rfl) (by kernel_rfl) (by kernel_rfl) (fun _ _ _ h => h) (Or.inr ⟨by rfl, rfl⟩) ⟨fd0, fd1, fd2, fd3, fd4⟩ ?_
      try simp only [Act.put, List.setIfInBounds_toArray, List.set_cons_zero, List.set_cons_succ]
      refine wpAnyH_take (i := 21) (oi := { dst := some 33, op := Op.pick (Operand.tmp 24) (Operand.const (Value.bool true)) (Operand.tmp 32), type := 4, pos := "match.go:101", after := #[{ on := 12, ground := Ground.data }, { on := 20, ground := Ground.data }], guard := none }) (v := ?_) rfl (by kernel_rfl) (by kernel_rfl) (by kernel_rfl) (fun _ _ _ h => h) (Or.inl ⟨by rfl, ?_⟩) ⟨fd0, fd1, fd2, fd3, fd4⟩ ?_
      rotate_left 1
      · intro w hSw
        obtain ⟨hSw0, hSw1, hSw2, hSw3, hSw4⟩ := hSw
        go_simp
        first
          | done
          | with_reducible rfl
          | rw [if_neg (by omega)]
      try simp only [Act.put, List.setIfInBounds_toArray, List.set_cons_zero, List.set_cons_succ]
      refine wpAnyH_done (by kernel_rfl) ?_ _
      refine NoPanic.normal ?_
      go_wp2_with fail
      go_ret2
      exact ⟨none, 0, 0, es', by rw [HH.out]; rfl, fun l hl => (by rw [HH.out] at hl; cases hl), (unhide HS).below (unhide hbw), (unhide HST).trans (.below vv (unhide hbw))⟩
  · rw [if_neg (fun q => h1 q.1)] at HE
    have g1 : (kd == 7) = false := beq_eq_false_iff_ne.2 h1
    have g1b : (kd != 7) = true := by simpa using h1
    clear h1
    go_wp2_with fail
    simp only [← hw2, hg5.out, hgc.out] at hk0 hk1 hc1 hc2 ⊢
    have hbw := hide (below_drew (unhide HB2))
    clear hw2 HB2
    have fd0 : Hid (w2.drew.cell? ⟨g5, 0, none⟩ = some (.int .i64 kd)) := hide hk0
    have fd1 : Hid (w2.drew.cell? ⟨g5, 1, none⟩ = some (.slice A m d)) := hide hk1
    have fd2 : Hid (w2.drew.cell? ⟨gc, 1, none⟩ = some (.int .i64 num)) := hide hc1
    have fd3 : Hid (w2.drew.cell? ⟨gc, 2, none⟩ = some (.int .i64 kids)) := hide hc2
    refine wp_region_noPanic ?_
    refine wp_region_held_drew (S := fun W => W.cell? ⟨g5, 0, none⟩ = some (.int .i64 kd) ∧ W.cell? ⟨g5, 1, none⟩ = some (.slice A m d) ∧ W.cell? ⟨gc, 1, none⟩ = some (.int .i64 num) ∧ W.cell? ⟨gc, 2, none⟩ = some (.int .i64 kids)) (by kernel_rfl) ⟨fd0, fd1, fd2, fd3⟩ (fun _ => ?_)
    generalize w2.drew = wd at *
    try simp only [Act.put, List.setIfInBounds_toArray, List.set_cons_zero, List.set_cons_succ]
    refine wpAnyH_take (i := 0) (oi := { dst := some 12, op := Op.fieldAddr 115 (Operand.tmp 8) 0, type := 0, pos := "match.go:101", after := #[], guard := none }) (v := ?_) rfl (by kernel_rfl) (by kernel_rfl) (by kernel_rfl) (fun _ _ _ h => h) (Or.inl ⟨by rfl, ?_⟩) ⟨fd0, fd1, fd2, fd3⟩ ?_
    rotate_left 1
    · intro w hSw
      obtain ⟨hSw0, hSw1, hSw2, hSw3⟩ := hSw
      go_simp
      first
        | done
        | with_reducible rfl
        | rw [if_neg (by omega)]
    try simp only [Act.put, List.setIfInBounds_toArray, List.set_cons_zero, List.set_cons_succ]
    refine wpAnyH_take (i := 1) (oi := { dst := some 13, op := Op.load 3 (Operand.tmp 12), type := 3, pos := "match.go:101", after := #[{ on := 0, ground := Ground.data }], guard := none }) (v := ?_) rfl (by kernel_rfl) (by kernel_rfl) (by kernel_rfl) (fun _ _ _ h => h) (Or.inl ⟨by rfl, ?_⟩) ⟨fd0, fd1, fd2, fd3⟩ ?_
    rotate_left 1
    · intro w hSw
      obtain ⟨hSw0, hSw1, hSw2, hSw3⟩ := hSw
      go_simp
      first
        | done
        | with_reducible rfl
        | rw [if_neg (by omega)]
    try simp only [Act.put, List.setIfInBounds_toArray, List.set_cons_zero, List.set_cons_succ]
    refine wpAnyH_take (i := 2) (oi := { dst := some 14, op := Op.binOp BinOp.neq 3 (Operand.tmp 13) (Operand.const (Value.int IntKind.i64 7)) 3, type := 4, pos := "match.go:101", after := #[{ on := 1, ground := Ground.data }], guard := none }) (v := ?_) rfl (by kernel_rfl) (by kernel_rfl) (by kernel_rfl) (fun _ _ _ h => h) (Or.inl ⟨by rfl, ?_⟩) ⟨fd0, fd1, fd2, fd3⟩ ?_
    rotate_left 1
    · intro w hSw
      obtain ⟨hSw0, hSw1, hSw2, hSw3⟩ := hSw
      go_simp
      first
        | done
        | with_reducible rfl
        | rw [if_neg (by omega)]
    try simp only [Act.put, List.setIfInBounds_toArray, List.set_cons_zero, List.set_cons_succ]
    refine wpAnyH_take (i := 3) (oi := { dst := some 15, op := Op.move (Operand.tmp 14), type := 4, pos := "match.go:101", after := #[{ on := 2, ground := Ground.data }], guard := none }) (v := ?_) rfl (by kernel_rfl) (by kernel_rfl) (by kernel_rfl) (fun _ _ _ h => h) (Or.inl ⟨by rfl, ?_⟩) ⟨fd0, fd1, fd2, fd3⟩ ?_
    rotate_left 1
    · intro w hSw
      obtain ⟨hSw0, hSw1, hSw2, hSw3⟩ := hSw
      go_simp
      first
        | done
        | with_reducible rfl
        | rw [if_neg (by omega)]
    try simp only [Act.put, List.setIfInBounds_toArray, List.set_cons_zero, List.set_cons_succ]
    refine wpAnyH_take (i := 4) (oi := { dst := some 16, op := Op.fieldAddr 115 (Operand.tmp 8) 1, type := 0, pos := "match.go:101", after := #[{ on := 3, ground := Ground.guard }], guard := some (3, false) }) (v := undef) rfl (by kernel_rfl) (by kernel_rfl) (by kernel_rfl) (fun _ _ _ h => h) (Or.inr ⟨by rfl, rfl⟩) ⟨fd0, fd1, fd2, fd3⟩ ?_
    try simp only [Act.put, List.setIfInBounds_toArray, List.set_cons_zero, List.set_cons_succ]
    refine wpAnyH_take (i := 5) (oi := { dst := some 17, op := Op.load 24 (Operand.tmp 16), type := 24, pos := "match.go:101", after := #[{ on := 4, ground := Ground.data }, { on := 3, ground := Ground.guard }], guard := some (3, false) }) (v := undef) rfl (by kernel_rfl) (by kernel_rfl) (by kernel_rfl) (fun _ _ _ h => h) (Or.inr ⟨by rfl, rfl⟩) ⟨fd0, fd1, fd2, fd3⟩ ?_
    try simp only [Act.put, List.setIfInBounds_toArray, List.set_cons_zero, List.set_cons_succ]
    refine wpAnyH_take (i := 6) (oi := { dst := some 18, op := Op.call { callee := Callee.builtin Builtin.len, args := #[Operand.tmp 17], argTypes := #[24] }, type := 3, pos := "match.go:101", after := #[{ on := 5, ground := Ground.data }, { on := 3, ground := Ground.guard }], guard := some (3, false) }) (v := undef) rfl (by kernel_rfl) (by kernel_rfl) (by kernel_rfl) (fun _ _ _ h => h) (Or.inr ⟨by rfl, rfl⟩) ⟨fd0, fd1, fd2, fd3⟩ ?_
    try simp only [Act.put, List.setIfInBounds_toArray, List.set_cons_zero, List.set_cons_succ]
    refine wpAnyH_take (i := 7) (oi := { dst := some 19, op := Op.binOp BinOp.sub 3 (Operand.tmp 18) (Operand.const (Value.int IntKind.i64 1)) 3, type := 3, pos := "match.go:101", after := #[{ on := 6, ground := Ground.data }, { on := 3, ground := Ground.guard }], guard := some (3, false) }) (v := undef) rfl (by kernel_rfl) (by kernel_rfl) (by kernel_rfl) (fun _ _ _ h => h) (Or.inr ⟨by rfl, rfl⟩) ⟨fd0, fd1, fd2, fd3⟩ ?_
    try simp only [Act.put, List.setIfInBounds_toArray, List.set_cons_zero, List.set_cons_succ]
    refine wpAnyH_take (i := 8) (oi := { dst := some 20, op := Op.fieldAddr 27 (Operand.tmp 4) 2, type := 0, pos := "match.go:101", after := #[{ on := 3, ground := Ground.guard }], guard := some (3, false) }) (v := undef) rfl (by kernel_rfl) (by kernel_rfl) (by kernel_rfl) (fun _ _ _ h => h) (Or.inr ⟨by rfl, rfl⟩) ⟨fd0, fd1, fd2, fd3⟩ ?_
    try simp only [Act.put, List.setIfInBounds_toArray, List.set_cons_zero, List.set_cons_succ]
    refine wpAnyH_take (i := 9) (oi := { dst := some 21, op := Op.load 3 (Operand.tmp 20), type := 3, pos := "match.go:101", after := #[{ on := 8, ground := Ground.data }, { on := 3, ground := Ground.guard }], guard := some (3, false) }) (v := undef) rfl (by kernel_rfl) (by kernel_rfl) (by kernel_rfl) (fun _ _ _ h => h) (Or.inr ⟨by rfl, rfl⟩) ⟨fd0, fd1, fd2, fd3⟩ ?_
    try simp only [Act.put, List.setIfInBounds_toArray, List.set_cons_zero, List.set_cons_succ]
    refine wpAnyH_take (i := 10) (oi := { dst := some 22, op := Op.binOp BinOp.neq 3 (Operand.tmp 19) (Operand.tmp 21) 3, type := 4, pos := "match.go:101", after := #[{ on := 7, ground := Ground.data }, { on := 9, ground := Ground.data }, { on := 3, ground := Ground.guard }], guard := some (3, false) }) (v := undef) rfl (by kernel_rfl) (by kernel_rfl) (by kernel_rfl) (fun _ _ _ h => h) (Or.inr ⟨by rfl, rfl⟩) ⟨fd0, fd1, fd2, fd3⟩ ?_
    try simp only [Act.put, List.setIfInBounds_toArray, List.set_cons_zero, List.set_cons_succ]
    refine wpAnyH_take (i := 11) (oi := { dst := some 23, op := Op.pick (Operand.tmp 15) (Operand.const (Value.bool true)) (Operand.tmp 22), type := 4, pos := "match.go:101", after := #[{ on := 3, ground := Ground.data }, { on := 10, ground := Ground.data }], guard := none }) (v := ?_) rfl (by kernel_rfl) (by kernel_rfl) (by kernel_rfl) (fun _ _ _ h => h) (Or.inl ⟨by rfl, ?_⟩) ⟨fd0, fd1, fd2, fd3⟩ ?_
    rotate_left 1
    · intro w hSw
      obtain ⟨hSw0, hSw1, hSw2, hSw3⟩ := hSw
      go_simp
      first
        | done
        | with_reducible rfl
        | rw [if_neg (by omega)]
    try simp only [Act.put, List.setIfInBounds_toArray, List.set_cons_zero, List.set_cons_succ]
    refine wpAnyH_take (i := 12) (oi := { dst := some 24, op := Op.move (Operand.tmp 23), type := 4, pos := "match.go:101", after := #[{ on := 11, ground := Ground.data }, { on := 3, ground := Ground.chain }], guard := none }) (v := ?_) rfl (by kernel_rfl) (by kernel_rfl) (by kernel_rfl) (fun _ _ _ h => h) (Or.inl ⟨by rfl, ?_⟩) ⟨fd0, fd1, fd2, fd3⟩ ?_
    rotate_left 1
    · intro w hSw
      obtain ⟨hSw0, hSw1, hSw2, hSw3⟩ := hSw
      go_simp
      first
        | done
        | with_reducible rfl
        | rw [if_neg (by omega)]
    try simp only [Act.put, List.setIfInBounds_toArray, List.set_cons_zero, List.set_cons_succ]
    refine wpAnyH_take (i := 13) (oi := { dst := some 25, op := Op.fieldAddr 115 (Operand.tmp 8) 1, type := 0, pos := "match.go:101", after := #[{ on := 12, ground := Ground.guard }], guard := some (12, false) }) (v := undef) rfl (by kernel_rfl) (by kernel_rfl) (by kernel_rfl) (fun _ _ _ h => h) (Or.inr ⟨by rfl, rfl⟩) ⟨fd0, fd1, fd2, fd3⟩ ?_
    try simp only [Act.put, List.setIfInBounds_toArray, List.set_cons_zero, List.set_cons_succ]
    refine wpAnyH_take (i := 14) (oi := { dst := some 26, op := Op.load 24 (Operand.tmp 25), type := 24, pos := "match.go:101", after := #[{ on := 13, ground := Ground.data }, { on := 12, ground := Ground.guard }], guard := some (12, false) }) (v := undef) rfl (by kernel_rfl) (by kernel_rfl) (by kernel_rfl) (fun _ _ _ h => h) (Or.inr ⟨by rfl, rfl⟩) ⟨fd0, fd1, fd2, fd3⟩ ?_
    try simp only [Act.put, List.setIfInBounds_toArray, List.set_cons_zero, List.set_cons_succ]
    refine wpAnyH_take (i := 15) (oi := { dst := some 27, op := Op.indexAddr 24 (Operand.tmp 26) (Operand.const (Value.int IntKind.i64 0)), type := 0, pos := "match.go:101", after := #[{ on := 14, ground := Ground.data }, { on := 12, ground := Ground.guard }], guard := some (12, false) }) (v := undef) rfl (by kernel_rfl) (by kernel_rfl) (by kernel_rfl) (fun _ _ _ h => h) (Or.inr ⟨by rfl, rfl⟩) ⟨fd0, fd1, fd2, fd3⟩ ?_
    try simp only [Act.put, List.setIfInBounds_toArray, List.set_cons_zero, List.set_cons_succ]
    refine wpAnyH_take (i := 16) (oi := { dst := some 28, op := Op.load 23 (Operand.tmp 27), type := 23, pos := "match.go:101", after := #[{ on := 15, ground := Ground.data }, { on := 12, ground := Ground.guard }], guard := some (12, false) }) (v := undef) rfl (by kernel_rfl) (by kernel_rfl) (by kernel_rfl) (fun _ _ _ h => h) (Or.inr ⟨by rfl, rfl⟩) ⟨fd0, fd1, fd2, fd3⟩ ?_
    try simp only [Act.put, List.setIfInBounds_toArray, List.set_cons_zero, List.set_cons_succ]
    refine wpAnyH_take (i := 17) (oi := { dst := some 29, op := Op.call { callee := Callee.value (Operand.func 97), args := #[Operand.tmp 28], argTypes := #[23] }, type := 2, pos := "match.go:101", after := #[{ on := 16, ground := Ground.data }, { on := 12, ground := Ground.chain }, { on := 12, ground := Ground.guard }], guard := some (12, false) }) (v := undef) rfl (by kernel_rfl) (by kernel_rfl) (by kernel_rfl) (fun _ _ _ h => h) (Or.inr ⟨by rfl, rfl⟩) ⟨fd0, fd1, fd2, fd3⟩ ?_
    try simp only [Act.put, List.setIfInBounds_toArray, List.set_cons_zero, List.set_cons_succ]
    refine wpAnyH_take (i := 18) (oi := { dst := some 30, op := Op.fieldAddr 27 (Operand.tmp 4) 1, type := 0, pos := "match.go:101", after := #[{ on := 12, ground := Ground.guard }], guard := some (12, false) }) (v := undef) rfl (by kernel_rfl) (by kernel_rfl) (by kernel_rfl) (fun _ _ _ h => h) (Or.inr ⟨by rfl, rfl⟩) ⟨fd0, fd1, fd2, fd3⟩ ?_
    try simp only [Act.put, List.setIfInBounds_toArray, List.set_cons_zero, List.set_cons_succ]
    refine wpAnyH_take (i := 19) (oi := { dst := some 31, op := Op.load 2 (Operand.tmp 30), type := 2, pos := "match.go:101", after := #[{ on := 18, ground := Ground.data }, { on := 12, ground := Ground.guard }], guard := some (12, false) }) (v := undef) rfl (by kernel_rfl) (by kernel_rfl) (by kernel_rfl) (fun _ _ _ h => h) (Or.inr ⟨by rfl, rfl⟩) ⟨fd0, fd1, fd2, fd3⟩ ?_
    try simp only [Act.put, List.setIfInBounds_toArray, List.set_cons_zero, List.set_cons_succ]
    refine wpAnyH_take (i := 20) (oi := { dst := some 32, op := Op.binOp BinOp.neq 2 (Operand.tmp 29) (Operand.tmp 31) 2, type := 4, pos := "match.go:101", after := #[{ on := 17, ground := Ground.data }, { on := 19, ground := Ground.data }, { on := 12, ground := Ground.guard }], guard := some (12, false) }) (v := undef) rfl (by kernel_rfl) (by kernel_rfl) (by kernel_rfl) (fun _ _ _ h => h) (Or.inr ⟨by rfl, rfl⟩) ⟨fd0, fd1, fd2, fd3⟩ ?_
    try simp only [Act.put, List.setIfInBounds_toArray, List.set_cons_zero, List.set_cons_succ]
    refine wpAnyH_take (i := 21) (oi := { dst := some 33, op := Op.pick (Operand.tmp 24) (Operand.const (Value.bool true)) (Operand.tmp 32), type := 4, pos := "match.go:101", after := #[{ on := 12, ground := Ground.data }, { on := 20, ground := Ground.data }], guard := none }) (v := ?_) rfl (by kernel_rfl) (by kernel_rfl) (by kernel_rfl) (fun _ _ _ h => h) (Or.inl ⟨by rfl, ?_⟩) ⟨fd0, fd1, fd2, fd3⟩ ?_
    rotate_left 1
    · intro w hSw
      obtain ⟨hSw0, hSw1, hSw2, hSw3⟩ := hSw
      go_simp
      first
        | done
        | with_reducible rfl
        | rw [if_neg (by omega)]
    try simp only [Act.put, List.setIfInBounds_toArray, List.set_cons_zero, List.set_cons_succ]
    refine wpAnyH_done (by kernel_rfl) ?_ _
    refine NoPanic.normal ?_
    go_wp2_with fail
    go_ret2
    exact ⟨none, 0, 0, es', by rw [HE.out]; rfl, fun l hl => (by rw [HE.out] at hl; cases hl), (unhide HS).below (unhide hbw), (unhide HST).trans (.below vv (unhide hbw))⟩

end Go.Proofs.YtdifpemohdnolaaGreat
