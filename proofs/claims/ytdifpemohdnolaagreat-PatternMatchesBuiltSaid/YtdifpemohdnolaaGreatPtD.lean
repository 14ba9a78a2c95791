/- The matcher's state; open: what a value consists of, kept in a map. Conditions: the value has at most 2^48 bytes. -/

import Derived.Test.YtdifpemohdnolaaGreatPtB
import Derived.Test.YtdifpemohdnolaaGreatMapT
import Derived.Test.YtdifpemohdnolaaGreatFnA
import Derived.Test.YtdifpemohdnolaaGreatVpT
import Derived.Deep.RegionHeld3
namespace Go.Proofs.YtdifpemohdnolaaGreat
open Go.RowKit VM

/-- a store under a new key, at the operation of a drawn region -/
theorem step_put_t {P : Program} {w : World} {ops : Array Oper} {o : Oper} {a : Act} {K : Act → World → Prop} {Q : Exit → Act → World → Prop} {E : Prop} (hgd : o.guard = none) (m x v : Operand) (t : TypeId) (hop : o.op = Op.mapUpdate t m x v) (kt et : TypeId) (ht : P.underlying t = some (.map kt et)) (hkt : P.underlying kt = some .string)
    (g : Nat) (es : List (ByteArray × Value)) (k : ByteArray) (val : Value) (hm : a.eval m = .map (some g)) (hx : a.eval x = .string k) (hv : a.eval v = val) (h : TMap w g es) (hn : es.find? (fun p => decide (p.1 = k)) = none)
    (hK : ∀ w', TMap w' g (es ++ [(k, val)]) → w.grownBy w' (some g) → K (a.put o.dst undef) w') : if Region.wanted o (yielded ops a.tmps) = true then Oper.wp P o a w K Q else E := by
  have hw2 : Region.wanted o (yielded ops a.tmps) = true := by simp [Region.wanted, hgd]
  rw [if_pos hw2]
  obtain ⟨w', hrun, r1, r2⟩ := h.put ht hkt k val hn
  unfold Oper.wp
  simp [execOp, hop, hm, hx, hv, hrun, Result.andThen]
  exact hK w' r1 r2
theorem owns_le {w : World} {b m d sz : Nat} {e : TypeId} {A : Option Addr} {xs : List Value} (h : w.ownsRow b e sz (.slice A m d) m xs) : m ≤ d := by
  rcases h.2 with ⟨h1, h2⟩ | ⟨g, c, cur, h1, h2, h3, h4, h5⟩
  · omega
  · injection h1 with _ _ q
    omega
/-- a block that the matcher leaves alone -/
def Safe (w : World) (g gm : Nat) (vv : Value) (b : Nat) : Prop := b < w.heap.size ∧ b ≠ g ∧ b ≠ gm ∧ some b ≠ vv.ownBlock
/-- a step of the matcher -/
structure MStep (g gm : Nat) (w w' : World) (vv vv' : Value) : Prop where
  keep : Keep (fun k => Safe w g gm vv k) w w'
  own : ∀ b, vv'.ownBlock = some b → vv.ownBlock = some b ∨ w.heap.size ≤ b
theorem Safe.step {g gm b : Nat} {w w' : World} {vv vv' : Value} (h : Safe w g gm vv b) (hs : MStep g gm w w' vv vv') : Safe w' g gm vv' b :=
  ⟨Nat.lt_of_lt_of_le h.1 hs.keep.size, h.2.1, h.2.2.1, fun e => by
    rcases hs.own b e.symm with q | q
    · exact h.2.2.2 q.symm
    · have := h.1; omega⟩
theorem MStep.refl (g gm : Nat) (w : World) (vv : Value) : MStep g gm w w vv vv := ⟨Keep.refl _ _, fun _ h => .inl h⟩
theorem MStep.trans {g gm : Nat} {a b c : World} {u v z : Value} (h : MStep g gm a b u v) (k : MStep g gm b c v z) : MStep g gm a c u z :=
  ⟨h.keep.trans (k.keep.mono fun _ hq => hq.step h), fun b hb => by
    rcases k.own b hb with q | q
    · exact h.own b q
    · exact .inr (Nat.le_trans h.keep.size q)⟩
theorem MStep.below {g gm : Nat} {w w' : World} (vv : Value) (h : Below w.heap.size w w') : MStep g gm w w' vv vv := ⟨Keep.below h fun _ q => q.1, fun _ q => .inl q⟩
/-- cells that the matcher leaves alone -/
def PIn (w : World) (g gm : Nat) (vv : Value) (A : Option Addr) (xs : List Value) : Prop :=
  xs = [] ∨ ∃ b off, A = some ⟨b, off, none⟩ ∧ Safe w g gm vv b ∧ ∀ (i : Nat) (u : Value), xs[i]? = some u → w.cell? ⟨b, off + i, none⟩ = some u
theorem PIn.in_ {w : World} {g gm : Nat} {vv : Value} {A : Option Addr} {xs : List Value} (h : PIn w g gm vv A xs) : InC w A xs := by
  rcases h with h | ⟨b, off, h1, h2, h3⟩
  · exact .inl h
  · exact .inr ⟨b, off, h1, h2.1, h3⟩
theorem PIn.step {g gm : Nat} {w w' : World} {vv vv' : Value} {A : Option Addr} {xs : List Value} (h : PIn w g gm vv A xs) (hs : MStep g gm w w' vv vv') : PIn w' g gm vv' A xs := by
  rcases h with h | ⟨b, off, h1, h2, h3⟩
  · exact .inl h
  · exact .inr ⟨b, off, h1, h2.step hs, fun i u hu => (hs.keep.cell (b := b) h2 (off + i)).trans (h3 i u hu)⟩
/-- the matcher between two calls -/
structure MS (g gm : Nat) (p : List Cd) (pA : Option Addr) (n c : Nat) (w : World) (vv : Value) (vs : List ByteArray) (es : List (ByteArray × Value)) : Prop where
  blk : Blk w g 75 #[.slice pA n c, vv, .map (some gm)]
  map : TMap w gm es
  pat : PIn w g gm vv pA (p.flatMap cdCells)
  len : n = p.length
  row : w.ownsRow 0 23 1 vv vs.length (vs.map Value.string)
  memo : ∀ (k : ByteArray) (v : Value), es.find? (fun p => decide (p.1 = k)) = some (k, v) → ∃ A m d, v = .agg #[.int .i64 (kindM k), .slice A m d] ∧ (m = (pt k).length ∧ m ≤ d) ∧ PIn w g gm vv A ((pt k).map Value.string)
section
variable {g gm n c : Nat} {p : List Cd} {pA : Option Addr} {w w' : World} {vv : Value} {vs : List ByteArray} {es : List (ByteArray × Value)}
theorem MS.ne (h : MS g gm p pA n c w vv vs es) : g ≠ gm ∧ g < w.heap.size ∧ gm < w.heap.size ∧ some g ≠ vv.ownBlock ∧ some gm ≠ vv.ownBlock := by
  refine ⟨?_, h.blk.lt, h.map.lt, fun e => own_blk_ne h.row h.blk (by decide) e.symm, own_tmap_ne h.row h.map⟩
  rintro rfl
  obtain ⟨xs, q, h1, _⟩ := h.map
  have := h.blk
  unfold Blk at this
  rw [h1] at this
  cases this
/-- what only makes blocks -/
theorem MS.below (h : MS g gm p pA n c w vv vs es) (hb : Below w.heap.size w w') : MS g gm p pA n c w' vv vs es :=
  ⟨h.blk.below hb h.blk.lt, h.map.below hb h.map.lt, h.pat.step (.below vv hb), h.len, owns_below h.row hb, fun k v hk => by
    obtain ⟨A, m, d, h1, h2, h3⟩ := h.memo k v hk
    exact ⟨A, m, d, h1, h2, h3.step (.below vv hb)⟩⟩
end
theorem find_snoc {es : List (ByteArray × Value)} {k x : ByteArray} {v : Value} {r : ByteArray × Value} (h : (es ++ [(k, v)]).find? (fun p => decide (p.1 = x)) = some r) : es.find? (fun p => decide (p.1 = x)) = some r ∨ (x = k ∧ r = (k, v)) := by
  rw [List.find?_append] at h
  cases hf : es.find? (fun p => decide (p.1 = x)) with
  | some q => rw [hf] at h; exact .inl h
  | none =>
    rw [hf] at h
    by_cases e : k = x
    · subst e
      rw [Option.none_or, List.find?_cons_of_pos (by simp)] at h
      exact .inr ⟨rfl, (Option.some.inj h).symm⟩
    · rw [Option.none_or, List.find?_cons_of_neg (by simpa using e)] at h
      cases h
theorem find_key {es : List (ByteArray × Value)} {x : ByteArray} {r : ByteArray × Value} (h : es.find? (fun p => decide (p.1 = x)) = some r) : r.1 = x := by
  have := List.find?_some h
  simpa using this
section
variable {g gm n c : Nat} {p : List Cd} {pA : Option Addr} {w w' : World} {vv : Value} {vs : List ByteArray} {es : List (ByteArray × Value)}
/-- a row made behind the state -/
theorem MS.new (h : MS g gm p pA n c w vv vs es) {b m d : Nat} {e : TypeId} {A : Option Addr} {xs : List Value} (ho : w'.ownsRow b e 1 (.slice A m d) m xs) (hb : w.heap.size ≤ b) : PIn w' g gm vv A xs := by
  obtain ⟨h1, h2, h3, h4, h5⟩ := h.ne
  by_cases h0 : m = 0
  · subst h0
    exact .inl (List.eq_nil_of_length_eq_zero (by simpa using ho.1))
  · obtain ⟨q, c', e', hq, hlt, _, hcell⟩ := owns_cell ho (by omega)
    injection e' with e1 e2 e3
    subst e1
    refine .inr ⟨q, 0, rfl, ⟨hlt, by omega, by omega, fun e4 => ?_⟩, fun k t ht => by rw [Nat.zero_add]; exact hcell k t ht⟩
    have := (h.row.lt q e4.symm).2
    omega
theorem MS.put (h : MS g gm p pA n c w vv vs es) {v : ByteArray} {A : Option Addr} {m d : Nat} (hk : Keep (fun k => k < w.heap.size ∧ k ≠ gm) w w') (hm : TMap w' gm (es ++ [(v, .agg #[.int .i64 (kindM v), .slice A m d])])) (hl : m = (pt v).length ∧ m ≤ d)
    (hp : PIn w' g gm vv A ((pt v).map Value.string)) : MS g gm p pA n c w' vv vs (es ++ [(v, .agg #[.int .i64 (kindM v), .slice A m d])]) ∧ MStep g gm w w' vv vv := by
  obtain ⟨h1, h2, h3, h4, h5⟩ := h.ne
  have hs : MStep g gm w w' vv vv := ⟨hk.mono fun k q => ⟨q.1, q.2.2.1⟩, fun _ q => .inl q⟩
  refine ⟨⟨h.blk.keep hk ⟨h2, h1⟩, hm, h.pat.step hs, h.len, owns_keep h.row hk fun k q => ⟨(h.row.lt k q).2, fun e => h5 (by rw [← e]; exact q.symm)⟩, fun k x hf => ?_⟩, hs⟩
  rcases find_snoc hf with q | ⟨q1, q2⟩
  · obtain ⟨A2, m2, d2, r1, r2, r3⟩ := h.memo k x q
    exact ⟨A2, m2, d2, r1, r2, r3.step hs⟩
  · subst q1
    injection q2 with _ q3
    exact ⟨A, m, d, q3, hl, hp⟩
end
theorem opened_info : (Tryz.prog.info? 115).map (fun i => (i.zero, i.size, i.bytes)) = some (some (.agg #[.int .i64 0, .slice none 0 0]), 2, 32) := by kernel_rfl
/-- what open returns -/
def OpPost (g gm : Nat) (p : List Cd) (pA : Option Addr) (n c : Nat) (vv : Value) (vs : List ByteArray) (v : ByteArray) (w : World) (e : Ending) (w' : World) : Prop :=
  ∃ (A : Option Addr) (m d : Nat) (es' : List (ByteArray × Value)), e = .returned (.agg #[.int .i64 (kindM v), .slice A m d]) ∧ (m = (pt v).length ∧ m ≤ d) ∧ PIn w' g gm vv A ((pt v).map Value.string) ∧ MS g gm p pA n c w' vv vs es' ∧ MStep g gm w w' vv vv
set_option linter.unusedSimpArgs false in
set_option maxRecDepth 100000 in
set_option maxHeartbeats 6400000 in
theorem open_any (g gm : Nat) (p : List Cd) (pA : Option Addr) (n c : Nat) (vv : Value) (vs : List ByteArray) (es : List (ByteArray × Value)) (v : ByteArray) (hv : v.size ≤ 281474976710656) (w : World) (hS : MS g gm p pA n c w vv vs es) :
    Calls Tryz.prog 96 #[.pointer (some ⟨g, 0, none⟩), .string v] w (OpPost g gm p pA n c vv vs v w) := by
  have HS := hide hS
  obtain ⟨i0, hi0, hiz0, hiz1, hiz2⟩ := info_parts opened_info
  have hne := hS.ne
  have hm2 := hS.blk.cell 2
  change w.cell? ⟨g, 2, none⟩ = some (.map (some gm)) at hm2
  have HV := Lib.hid hv
  have hl1 : ∀ o : Obj, (w.alloc o).cell? ⟨g, 2, none⟩ = some (.map (some gm)) := fun o => (World.cell?_alloc_lt _ _ _ hne.2.1).trans hm2
  have hz := run_zero_ofT hi0 hiz0
  obtain ⟨W1, hW1⟩ : ∃ W1, W1 = w.alloc (.cells #[.int .i64 0, .slice none 0 0] 115) := ⟨_, rfl⟩
  have hlk := (hS.map.alloc (.cells #[.int .i64 0, .slice none 0 0] 115)).look Tryz.underlying73 Tryz.underlying23 (hz _) v true
  cases hf : es.find? (fun p => decide (p.1 = v)) with
  | some r =>
    obtain ⟨k, val⟩ := r
    have hk : k = v := find_key hf
    subst hk
    rw [hf] at hlk
    obtain ⟨A, m, d, hval, hm, hP⟩ := hS.memo _ _ hf
    subst hval
    simp only [if_true] at hlk
    have HP := hide hP
    have HM := Lib.hid hm
    clear hS hv hf hP hm hW1
    go_enter Tryz.func96, Tryz.ntmps96
    go_wp2_with fail
    have hb : Below w.heap.size w ((w.alloc (.cells #[.int .i64 (kindM k), .slice A m d] 115)).alloc (.cells #[.int .i64 (kindM k), .slice A m d] 115)) := ((Below.refl _ w).alloc (Nat.le_refl _) _).alloc (by simp) _
    have k0 := (Blk.new w 115 #[.int .i64 (kindM k), .slice A m d]).alloc (.cells #[.int .i64 (kindM k), .slice A m d] 115)
    have c0 := k0.cell 0
    have c1 := k0.cell 1
    refine bodyPost_ret (v := .agg #[.int .i64 (kindM k), .slice A m d]) ?_ rfl ⟨A, m, d, es, rfl, HM.out, (unhide HP).step (.below vv hb), (unhide HS).below hb, .below vv hb⟩
    simp [results, Tryz.f96, go_sem, c0, c1]
  | none =>
    rw [hf] at hlk
    simp only [if_true] at hlk
    have HFN := Lib.hid hf
    clear hS hv hf hW1
    go_enter Tryz.func96, Tryz.ntmps96
    go_wp2_with fail
    refine (pkindM_any v HV.out _).mono ?_
    rintro e w3 ⟨rfl, hb3⟩
    go_wp2_with fail
    refine (pparts_any v HV.out _).mono ?_
    rintro e w4 ⟨A, d, m, rfl, hm, hO, hb4⟩
    replace hm := And.intro hm (owns_le hO)
    have k4 := (Blk.new w 115 #[.int .i64 0, .slice none 0 0]).alloc (.cells #[.int .i64 0, .slice none 0 0] 115)
    have k5 := Blk.new (w.alloc (.cells #[.int .i64 0, .slice none 0 0] 115)) 115 #[.int .i64 0, .slice none 0 0]
    rw [World.size_alloc] at k5
    have hb2 : Below w.heap.size w ((w.alloc (.cells #[.int .i64 0, .slice none 0 0] 115)).alloc (.cells #[.int .i64 0, .slice none 0 0] 115)) := ((Below.refl _ w).alloc (Nat.le_refl _) _).alloc (by simp) _
    have hb24 := hb3.trans (hb4.mono hb3.size)
    have HK4 := hide (k4.below hb24 k4.lt)
    have HK5 := hide (k5.below hb24 k5.lt)
    have HB4 := hide (hb2.trans (hb24.mono hb2.size))
    have HOO := hide (owns_base hO (Nat.le_trans (by simp) hb3.size : w.heap.size + 2 ≤ w3.heap.size))
    have HMM := Lib.hid hm
    obtain ⟨g4, hg4⟩ : ∃ b, Hid (b = w.heap.size) := ⟨_, Lib.hid rfl⟩
    obtain ⟨g5, hg5⟩ : ∃ b, Hid (b = g4 + 1) := ⟨_, Lib.hid rfl⟩
    have e0 := (unhide HK5).cell 0
    have e1 := (unhide HK5).cell 1
    have f0 := (unhide HK5).frozen 0
    have f1 := (unhide HK5).frozen 1
    change w4.cell? ⟨_, 0, none⟩ = some (.int .i64 0) at e0
    change w4.cell? ⟨_, 1, none⟩ = some (.slice none 0 0) at e1
    rw [← hg4.out] at HK4 HK5 e0 e1 f0 f1
    rw [← hg5.out] at HK5 e0 e1 f0 f1
    simp only [← hg4.out]
    simp only [← hg5.out]
    have HKD := Lib.hid (rfl : kindM v = kindM v)
    obtain ⟨kd, hkd⟩ : ∃ z, Hid (z = kindM v) := ⟨_, Lib.hid rfl⟩
    simp only [← hkd.out]
    clear hb3 hb4 hb2 hb24 k4 k5 hO hm hlk hl1 hm2 HKD
    go_wp2_with fail
    have n45 : g4 ≠ g5 := by rw [hg5.out]; omega
    have K55 := hide (((unhide HK5).set_ 0 (.int .i64 kd)).set_ 1 (.slice A m d))
    change Hid (Blk _ g5 115 #[.int .i64 kd, .slice A m d]) at K55
    have K45 := hide (((unhide HK4).far (p := ⟨g5, 0, none⟩) n45 (.int .i64 kd)).far (p := ⟨g5, 1, none⟩) n45 (.slice A m d))
    have hg5w : w.heap.size ≤ g5 := by rw [hg5.out, hg4.out]; omega
    have HB5 := hide (((unhide HB4).setCell (p := ⟨g5, 0, none⟩) hg5w (.int .i64 kd)).setCell (p := ⟨g5, 1, none⟩) hg5w (.slice A m d))
    have HO5 := hide (owns_set (owns_set (unhide HOO) (own_blk_ne (unhide HOO) (unhide HK5) (by decide)) (o := 0) (.int .i64 kd)) (own_blk_ne (unhide HOO) (unhide HK5) (by decide)) (o := 1) (.slice A m d))
    generalize (w4.setCell ⟨g5, 0, none⟩ (.int .i64 kd)).setCell ⟨g5, 1, none⟩ (.slice A m d) = w5 at *
    clear e0 e1 f0 f1 HK4 HK5 HOO
    have HS5 := hide ((unhide HS).below (unhide HB5))
    have hm5 := (unhide HS5).blk.cell 2
    change w5.cell? ⟨g, 2, none⟩ = some (.map (some gm)) at hm5
    have c50 := (unhide K55).cell 0
    have c51 := (unhide K55).cell 1
    change w5.cell? ⟨g5, 0, none⟩ = some (.int .i64 kd) at c50
    change w5.cell? ⟨g5, 1, none⟩ = some (.slice A m d) at c51
    have hgl5 := (unhide HS5).blk.lt
    have h5l5 := (unhide K55).lt
    have hgm := hne.1
    have h5m : g5 ≠ gm := by have := hne.2.2.1; omega
    have h4m : g4 ≠ gm := by have := hne.2.2.1; have := hg4.out; omega
    have hg4w : w.heap.size ≤ g4 := Nat.le_of_eq hg4.out.symm
    have fd0 : Hid (w5.drew.cell? ⟨g, 2, none⟩ = some (.map (some gm))) := hide hm5
    have fd1 : Hid (w5.drew.cell? ⟨g5, 0, none⟩ = some (.int .i64 kd)) := hide c50
    have fd2 : Hid (w5.drew.cell? ⟨g5, 1, none⟩ = some (.slice A m d)) := hide c51
    have HMP := hide ((unhide HS5).map.drew)
    have hgl : g < w5.drew.heap.size := hgl5
    have h5l : g5 < w5.drew.heap.size := h5l5
    have HS5d := hide ((unhide HS5).below (below_drew (Below.refl w5.heap.size w5)))
    have HBd := hide (below_drew (unhide HB5))
    have HO5d := hide (owns_below (unhide HO5) (below_drew (Below.refl w5.heap.size w5)))
    have K4d := hide ((unhide K45).drew)
    have K5d := hide ((unhide K55).drew)
    refine wp_region_noPanic ?_
    refine wp_region_held_drew (S := fun W => W.cell? ⟨g, 2, none⟩ = some (.map (some gm)) ∧ W.cell? ⟨g5, 0, none⟩ = some (.int .i64 kd) ∧ W.cell? ⟨g5, 1, none⟩ = some (.slice A m d)) (by kernel_rfl) ⟨fd0, fd1, fd2⟩ (fun _ => ?_)
    generalize w5.drew = wd at *
    try simp only [Act.put, List.setIfInBounds_toArray, List.set_cons_zero, List.set_cons_succ]
    refine wpAnyH_take (i := 0) (oi := { dst := some 23, op := Op.move (Operand.tmp 0), type := 96, pos := "match.go:73", after := #[], guard := none }) (v := ?_) rfl (by kernel_rfl) (by kernel_rfl) (by kernel_rfl) (fun _ _ _ h => h) (Or.inl ⟨by rfl, ?_⟩) ⟨fd0, fd1, fd2⟩ ?_
    rotate_left 1
    · intro w hSw
      obtain ⟨hSw0, hSw1, hSw2⟩ := hSw
      go_simp
      first
        | done
        | with_reducible rfl
        | rw [if_neg (by omega)]
    try simp only [Act.put, List.setIfInBounds_toArray, List.set_cons_zero, List.set_cons_succ]
    refine wpAnyH_take (i := 1) (oi := { dst := some 24, op := Op.nilCheck (Operand.tmp 23), type := 0, pos := "match.go:73", after := #[{ on := 0, ground := Ground.data }], guard := none }) (v := ?_) rfl (by kernel_rfl) (by kernel_rfl) (by kernel_rfl) (fun _ _ _ h => h) (Or.inl ⟨by rfl, ?_⟩) ⟨fd0, fd1, fd2⟩ ?_
    rotate_left 1
    · intro w hSw
      obtain ⟨hSw0, hSw1, hSw2⟩ := hSw
      go_simp
      first
        | done
        | with_reducible rfl
        | rw [if_neg (by omega)]
    try simp only [Act.put, List.setIfInBounds_toArray, List.set_cons_zero, List.set_cons_succ]
    refine wpAnyH_take (i := 2) (oi := { dst := some 25, op := Op.fieldAddr 75 (Operand.tmp 24) 2, type := 0, pos := "match.go:73", after := #[{ on := 1, ground := Ground.data }], guard := none }) (v := ?_) rfl (by kernel_rfl) (by kernel_rfl) (by kernel_rfl) (fun _ _ _ h => h) (Or.inl ⟨by rfl, ?_⟩) ⟨fd0, fd1, fd2⟩ ?_
    rotate_left 1
    · intro w hSw
      obtain ⟨hSw0, hSw1, hSw2⟩ := hSw
      go_simp
      first
        | done
        | with_reducible rfl
        | rw [if_neg (by omega)]
    try simp only [Act.put, List.setIfInBounds_toArray, List.set_cons_zero, List.set_cons_succ]
    refine wpAnyH_take (i := 3) (oi := { dst := some 26, op := Op.load 73 (Operand.tmp 25), type := 73, pos := "match.go:73", after := #[{ on := 2, ground := Ground.data }], guard := none }) (v := ?_) rfl (by kernel_rfl) (by kernel_rfl) (by kernel_rfl) (fun _ _ _ h => h) (Or.inl ⟨by rfl, ?_⟩) ⟨fd0, fd1, fd2⟩ ?_
    rotate_left 1
    · intro w hSw
      obtain ⟨hSw0, hSw1, hSw2⟩ := hSw
      go_simp
      first
        | done
        | with_reducible rfl
        | rw [if_neg (by omega)]
    try simp only [Act.put, List.setIfInBounds_toArray, List.set_cons_zero, List.set_cons_succ]
    refine wpAnyH_take (i := 4) (oi := { dst := some 27, op := Op.move (Operand.tmp 1), type := 23, pos := "match.go:73", after := #[], guard := none }) (v := ?_) rfl (by kernel_rfl) (by kernel_rfl) (by kernel_rfl) (fun _ _ _ h => h) (Or.inl ⟨by rfl, ?_⟩) ⟨fd0, fd1, fd2⟩ ?_
    rotate_left 1
    · intro w hSw
      obtain ⟨hSw0, hSw1, hSw2⟩ := hSw
      go_simp
      first
        | done
        | with_reducible rfl
        | rw [if_neg (by omega)]
    try simp only [Act.put, List.setIfInBounds_toArray, List.set_cons_zero, List.set_cons_succ]
    refine wpAnyH_take (i := 5) (oi := { dst := some 28, op := Op.load 115 (Operand.tmp 5), type := 115, pos := "match.go:73", after := #[], guard := none }) (v := ?_) rfl (by kernel_rfl) (by kernel_rfl) (by kernel_rfl) (fun _ _ _ h => h) (Or.inl ⟨by rfl, ?_⟩) ⟨fd0, fd1, fd2⟩ ?_
    rotate_left 1
    · intro w hSw
      obtain ⟨hSw0, hSw1, hSw2⟩ := hSw
      go_simp
      first
        | done
        | with_reducible rfl
        | rw [if_neg (by omega)]
    try simp only [Act.put, List.setIfInBounds_toArray, List.set_cons_zero, List.set_cons_succ]
    refine wpAnyH_ready (rs := [6]) (by kernel_rfl) (by simp) ?_
    refine AllReadyH.cons (o := { dst := none, op := Op.mapUpdate 73 (Operand.tmp 26) (Operand.tmp 27) (Operand.tmp 28), type := 0, pos := "match.go:73", after := #[{ on := 3, ground := Ground.data }, { on := 4, ground := Ground.data }, { on := 5, ground := Ground.data }, { on := 0, ground := Ground.phase }, { on := 1, ground := Ground.phase }, { on := 2, ground := Ground.phase }, { on := 3, ground := Ground.phase }, { on := 4, ground := Ground.phase }, { on := 5, ground := Ground.phase }], guard := none }) rfl (fun K hK => ?_) AllReadyH.nil
    refine step_put_t rfl _ _ _ 73 rfl 23 115 Tryz.underlying73 Tryz.underlying23 gm es v (.agg #[.int .i64 kd, .slice A m d]) ?_ ?_ ?_ (unhide HMP) HFN.out ?_
    · go_simp
    · go_simp
    · go_simp
    intro w6 HM6 HG6
    have o6 : ∀ b o, b < wd.heap.size → b ≠ gm → w6.cell? ⟨b, o, none⟩ = wd.cell? ⟨b, o, none⟩ := fun b o h1 h2 => World.cell?_of_block (HG6.block b h1 (fun e => by injection e with e; exact h2 e))
    refine hK.out _ _ ⟨(o6 g 2 hgl hgm).trans (unhide fd0), (o6 g5 0 h5l h5m).trans (unhide fd1), (o6 g5 1 h5l h5m).trans (unhide fd2)⟩ (fun _ => ?_)
    clear hK K
    try simp only [Act.put, List.setIfInBounds_toArray, List.set_cons_zero, List.set_cons_succ]
    refine wpAnyH_done (by kernel_rfl) ?_ _
    refine NoPanic.normal ?_
    have K46 := hide ((unhide K4d).grown HG6 (fun e => by injection e with e; exact h4m e))
    have c60 := (o6 g5 0 h5l h5m).trans (unhide fd1)
    have c61 := (o6 g5 1 h5l h5m).trans (unhide fd2)
    have c40 := (unhide K46).cell 0
    have c41 := (unhide K46).cell 1
    change w6.cell? ⟨g4, 0, none⟩ = some (.int .i64 0) at c40
    change w6.cell? ⟨g4, 1, none⟩ = some (.slice none 0 0) at c41
    have f40 := (unhide K46).frozen 0
    have f41 := (unhide K46).frozen 1
    have HO6 := hide (owns_other (unhide HO5d) HG6 (fun k hk e => own_tmap_ne (unhide HO5d) (unhide HMP) (e ▸ hk.symm)))
    have HKP : Hid (Keep (fun k => k < w.heap.size ∧ k ≠ gm) w w6) := hide ((Keep.below (unhide HBd) fun k q => q.1).grown HG6 (fun k q => q.1) (fun k e q => by injection e with e; exact q.2 e.symm))
    clear HMP fd0 fd1 fd2 o6
    go_wp2_with fail
    have K47 := ((unhide K46).set_ 0 (.int .i64 kd)).set_ 1 (.slice A m d)
    have z0 := K47.cell 0
    have z1 := K47.cell 1
    change _ = some (Value.int .i64 kd) at z0
    change _ = some (Value.slice A m d) at z1
    have ho7 := owns_set (owns_set (unhide HO6) (own_blk_ne (unhide HO6) (unhide K46) (by decide)) (o := 0) (.int .i64 kd)) (own_blk_ne (unhide HO6) (unhide K46) (by decide)) (o := 1) (.slice A m d)
    have hk7 := ((unhide HKP).setCell (p := ⟨g4, 0, none⟩) (fun q => by have h9 : g4 < w.heap.size := q.1; omega) (.int .i64 kd)).setCell (p := ⟨g4, 1, none⟩) (fun q => by have h9 : g4 < w.heap.size := q.1; omega) (.slice A m d)
    have hm7 := HM6.kept (only_set (only_set (only_refl w6 (some g4)) 0 (.int .i64 kd)) 1 (.slice A m d)) (fun e => by injection e with e; exact h4m e.symm)
    obtain ⟨hS7, hst7⟩ := (unhide HS).put (v := v) (A := A) (m := m) (d := d) hk7 (by rw [← hkd.out]; exact hm7) HMM.out ((unhide HS).new ho7 (by omega))
    refine bodyPost_ret (v := .agg #[.int .i64 kd, .slice A m d]) ?_ rfl ⟨A, m, d, _, by rw [hkd.out], HMM.out, (unhide HS).new ho7 (by omega), hS7, hst7⟩
    simp [results, Tryz.f96, go_sem, z0, z1]

end Go.Proofs.YtdifpemohdnolaaGreat
