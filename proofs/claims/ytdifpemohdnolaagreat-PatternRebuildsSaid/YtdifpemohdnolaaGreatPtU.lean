/- The builder's build. Conditions: at most 8192 nodes, at most 8192 values of at most 2^48 bytes. -/
import Derived.Test.YtdifpemohdnolaaGreatPtR
namespace Go.Proofs.YtdifpemohdnolaaGreat
open Go.RowKit VM

def bLoop (f : Nat → List ByteArray → Option (ByteArray × Nat × List ByteArray)) : Nat → Nat → List ByteArray → List ByteArray → Option (List ByteArray × Nat × List ByteArray)
  | 0, i, vs, acc => some (acc, i, vs)
  | r + 1, i, vs, acc => match f i vs with
    | none => none
    | some q => bLoop f r q.2.1 q.2.2 (acc ++ [q.1])
/-- the value of the pattern at i, where it ends, what is left of the variables' values -/
def bld : Nat → List Cd → Nat → List ByteArray → Option (ByteArray × Nat × List ByteArray)
  | 0, _, _, _ => none
  | d + 1, p, i, vs => match p[i]? with
    | none => none
    | some c => if c.1 = 30 then (match vs with
      | [] => none
      | v :: r => some (v, i + 1, r))
      else match bLoop (bld d p) c.2.2.toNat (i + 1) vs [] with
      | none => none
      | some q => some (joinR c q.1, q.2.1, q.2.2)
/-- cells outside a block -/
def OutC (w : World) (g B : Nat) (A : Option Addr) (xs : List Value) : Prop :=
  xs = [] ∨ ∃ b off, A = some ⟨b, off, none⟩ ∧ (b < B ∧ B ≤ w.heap.size ∧ b ≠ g) ∧ ∀ (i : Nat) (u : Value), xs[i]? = some u → w.cell? ⟨b, off + i, none⟩ = some u
theorem OutC.in_ {w : World} {g B : Nat} {A : Option Addr} {xs : List Value} (h : OutC w g B A xs) : InC w A xs := by
  rcases h with h | ⟨b, off, h1, h2, h3⟩
  · exact .inl h
  · exact .inr ⟨b, off, h1, Nat.lt_of_lt_of_le h2.1 h2.2.1, h3⟩
theorem OutC.keep {w w' : World} {g B : Nat} {A : Option Addr} {xs : List Value} (h : OutC w g B A xs) (hk : Keep (fun k => k < w.heap.size ∧ k ≠ g) w w') : OutC w' g B A xs := by
  rcases h with h | ⟨b, off, h1, h2, h3⟩
  · exact .inl h
  · exact .inr ⟨b, off, h1, ⟨h2.1, Nat.le_trans h2.2.1 hk.size, h2.2.2⟩, fun i u hu => (hk.cell (b := b) ⟨Nat.lt_of_lt_of_le h2.1 h2.2.1, h2.2.2⟩ (off + i)).trans (h3 i u hu)⟩
theorem OutC.tail {w : World} {g B : Nat} {A : Option Addr} {x : Value} {xs : List Value} (h : OutC w g B A (x :: xs)) : ∃ b off, A = some ⟨b, off, none⟩ ∧ w.cell? ⟨b, off, none⟩ = some x ∧ OutC w g B (some ⟨b, off + 1, none⟩) xs := by
  rcases h with h | ⟨b, off, h1, h2, h3⟩
  · cases h
  · exact ⟨b, off, h1, h3 0 x rfl, .inr ⟨b, off + 1, rfl, h2, fun i u hu => by rw [Nat.add_assoc, Nat.add_comm 1 i]; exact h3 (i + 1) u hu⟩⟩
/-- the builder between two calls -/
structure BS (g B : Nat) (p : List Cd) (pA : Option Addr) (n c : Nat) (w : World) (vs : List ByteArray) : Prop where
  box : ∃ (A : Option Addr) (m d : Nat), Blk w g 68 #[.slice pA n c, .slice A m d] ∧ m = vs.length ∧ m ≤ d ∧ OutC w g B A (vs.map Value.string)
  pat : OutC w g B pA (p.flatMap cdCells)
  len : n = p.length
abbrev BKeep (g : Nat) (w w' : World) : Prop := Keep (fun k => k < w.heap.size ∧ k ≠ g) w w'
theorem BKeep.trans' {g : Nat} {a b c : World} (h : BKeep g a b) (k : BKeep g b c) : BKeep g a c := h.trans (k.mono fun _ q => ⟨Nat.lt_of_lt_of_le q.1 h.size, q.2⟩)
theorem BS.new {g B n c : Nat} {p : List Cd} {pA : Option Addr} {w w' : World} {vs : List ByteArray} (h : BS g B p pA n c w vs) (hb : Below w.heap.size w w') : BS g B p pA n c w' vs := by
  obtain ⟨⟨A, m, d, h1, h2, h3, h4⟩, h5, h6⟩ := h
  have hk : BKeep g w w' := Keep.below hb fun _ q => q.1
  exact ⟨⟨A, m, d, h1.below hb h1.lt, h2, h3, h4.keep hk⟩, h5.keep hk, h6⟩
theorem BS.pop {g B n c : Nat} {p : List Cd} {pA A2 : Option Addr} {w : World} {vs : List ByteArray} {x : Value} {m2 d2 : Nat} (hbx : Blk w g 68 #[.slice pA n c, x]) (hpt : OutC w g B pA (p.flatMap cdCells)) (hn : n = p.length) (hot : OutC w g B A2 (vs.map Value.string)) (hm : m2 = vs.length) (hmd : m2 ≤ d2) (o : Obj) :
    BS g B p pA n c ((w.setCell ⟨g, 1, none⟩ (.slice A2 m2 d2)).alloc o) vs ∧ BKeep g w ((w.setCell ⟨g, 1, none⟩ (.slice A2 m2 d2)).alloc o) := by
  have k1 : BKeep g w (w.setCell ⟨g, 1, none⟩ (.slice A2 m2 d2)) := (Keep.refl _ w).setCell (fun q => q.2 rfl) _
  have hk : BKeep g w ((w.setCell ⟨g, 1, none⟩ (.slice A2 m2 d2)).alloc o) := k1.trans' (Keep.below ((Below.refl _ _).alloc (Nat.le_refl _) o) fun _ q => q.1)
  have hbx2 := (hbx.set_ 1 (.slice A2 m2 d2)).alloc o
  exact ⟨⟨⟨A2, m2, d2, hbx2, hm, hmd, hot.keep hk⟩, hpt.keep hk, hn⟩, hk⟩
def BPost (g B : Nat) (p : List Cd) (pA : Option Addr) (n c : Nat) (r : ByteArray × Nat × List ByteArray) (w : World) (e : Ending) (w' : World) : Prop :=
  e = .returned (.tuple #[.string r.1, .int .i64 (r.2.1 : Int)]) ∧ BS g B p pA n c w' r.2.2 ∧ BKeep g w w'
set_option linter.unusedSimpArgs false in
set_option maxRecDepth 100000 in
set_option maxHeartbeats 6400000 in
theorem build_pvar (g B : Nat) (p : List Cd) (pA : Option Addr) (n c : Nat) (i : Nat) (w : World) (hn8 : p.length ≤ 8192) (num kids : Int) (ht : p[i]? = some (30, num, kids)) (v : ByteArray) (vs : List ByteArray) (hv8 : vs.length ≤ 8192) (hS : BS g B p pA n c w (v :: vs)) :
    Calls Tryz.prog 41 #[.pointer (some ⟨g, 0, none⟩), .int .i64 (i : Int)] w (BPost g B p pA n c (v, i + 1, vs) w) := by
  have hin : i < p.length := (List.getElem?_eq_some_iff.1 ht).1
  obtain ⟨⟨A, m, d, hbx, hm, hmd, ho⟩, hpt, hnp⟩ := hS
  obtain ⟨b, off, hAe, hb, x0, x1, x2⟩ := cd_at hpt.in_ ht
  dsimp only at x0 x1 x2
  subst hAe
  obtain ⟨b2, o2, rfl, hc0, hot⟩ := OutC.tail (x := .string v) (xs := vs.map Value.string) ho
  have hgl := hbx.lt
  obtain ⟨w1, hw1⟩ : ∃ z, z = w.alloc (.cells #[.int .i64 30, .int .i64 num, .int .i64 kids] 27) := ⟨_, rfl⟩
  have hb1 : Below w.heap.size w w1 := by rw [hw1]; exact (Below.refl _ w).alloc (Nat.le_refl _) _
  have hbx0 := hbx.cell 0
  change w.cell? ⟨g, 0, none⟩ = some (.slice (some ⟨b, off, none⟩) n c) at hbx0
  have hbx1 := hbx.below hb1 hgl
  have y1 := hbx1.cell 1
  have f1 := hbx1.frozen 1
  change w1.cell? ⟨g, 1, none⟩ = some (.slice (some ⟨b2, o2, none⟩) m d) at y1
  have y2 := cell_down hb1 hc0
  have HX := hide hbx
  have HO := hide hot
  have HP := hide hpt
  have HN := Lib.hid hnp
  have hm1 : m = vs.length + 1 := hm
  have HM := Lib.hid hm1
  have HMD := Lib.hid hmd
  have hn9 : n ≤ 8192 := by omega
  have hin2 : i < n := by omega
  have hm0 : 1 ≤ m := by omega
  have hm9 : m ≤ 8193 := by omega
  have gi : IntKind.i64.wrap ((i : Int) + 1) = ((i + 1 : Nat) : Int) := by rw [IntWalk.i64_in _ (by omega)]; simp
  rw [hw1] at y1 f1 y2
  clear hn8 ht hbx hm hmd ho hpt hnp hin hbx1 hot hm1 hc0 hb1
  go_enter Tryz.func41, Tryz.ntmps41
  go_wp2_with fail
  · have hvs : vs = [] := List.eq_nil_of_length_eq_zero (by have := HM.out; have := HMD.out; omega)
    have hf := BS.pop (A2 := some ⟨b2, o2, none⟩) (vs := vs) (m2 := m - 1) (d2 := 0) (unhide HX) (unhide HP) HN.out (.inl (by rw [hvs]; rfl)) (by have := HM.out; omega) (by have := HM.out; have := HMD.out; omega) (.cells #[.int .i64 30, .int .i64 num, .int .i64 kids] 27)
    go_ret2
    exact ⟨by simp, hf.1, hf.2⟩
  · have hf := BS.pop (A2 := some ⟨b2, o2 + 1, none⟩) (vs := vs) (m2 := m - 1) (d2 := d - 1) (unhide HX) (unhide HP) HN.out (unhide HO) (by have := HM.out; omega) (by have := HMD.out; omega) (.cells #[.int .i64 30, .int .i64 num, .int .i64 kids] 27)
    go_ret2
    exact ⟨by simp, hf.1, hf.2⟩

end Go.Proofs.YtdifpemohdnolaaGreat
namespace Go.Proofs.YtdifpemohdnolaaGreat
open Go.RowKit VM

theorem mkP_small (k : UInt8) (ps : List ByteArray) : (mkP k ps).size ≤ 131072 := by
  by_cases h : ps.all (valB 31) = true ∧ 3 + totB ps ≤ 131072
  · have e : mkP k ps = encB k ps := mkP_good (Nat.le_refl _) (List.all_eq_true.1 h.1) h.2
    rw [e, encB_size]
    exact h.2
  · unfold mkP compB
    rw [if_neg h]
    decide
theorem joinR_size (c : Cd) (l : List ByteArray) : (joinR c l).size ≤ 131072 := by
  unfold joinR
  repeat' split
  · rw [intB_size]; decide
  · cases decide (c.2.1 = 1) <;> decide
  · unfold tupP; split
    · exact mkP_small _ _
    · decide
  · exact mkP_small _ _
  · exact mkP_small _ _
  · unfold dotP; split
    · exact mkP_small _ _
    · decide
  · unfold insertR; split
    · exact mkP_small _ _
    · decide
  · decide
theorem bLoop_step {f : Nat → List ByteArray → Option (ByteArray × Nat × List ByteArray)} {K k i : Nat} {vs acc : List ByteArray} (h : k < K) : bLoop f (K - k) i vs acc = match f i vs with
    | none => none
    | some q => bLoop f (K - (k + 1)) q.2.1 q.2.2 (acc ++ [q.1]) := by
  obtain ⟨r, hr⟩ : ∃ r, K - k = r + 1 := ⟨K - k - 1, by omega⟩
  rw [hr, show K - (k + 1) = r by omega]
  rfl
theorem bld_facts : ∀ (d : Nat) {p : List Cd} {i j : Nat} {vs : List ByteArray} {v : ByteArray} {q : Nat} {r : List ByteArray}, (∀ u ∈ vs, u.size ≤ 281474976710656) → pendL d p i = some j → bld d p i vs = some (v, q, r) →
    q = j ∧ v.size ≤ 281474976710656 ∧ (∀ u ∈ r, u.size ≤ 281474976710656) ∧ r.length ≤ vs.length
  | 0, _, _, _, _, _, _, _, _, h, _ => by cases h
  | d + 1, p, i, j, vs, v, q, r, hs, h, hb => by
    unfold pendL at h
    unfold bld at hb
    cases hc : p[i]? with
    | none => rw [hc] at h; cases h
    | some c =>
      rw [hc] at h hb
      simp only at h hb
      cases hp : permL c with
      | false => rw [hp, if_neg (by decide)] at h; cases h
      | true =>
        rw [hp, if_pos rfl] at h
        by_cases h30 : c.1 = 30
        · rw [if_pos h30] at hb
          have hk : c.2.2.toNat = 0 := by
            have e : permL c = decide (c.2.1 = 0 ∧ c.2.2 = 0) := by unfold permL; rw [if_pos (Or.inl h30)]
            rw [hp] at e
            have := of_decide_eq_true e.symm
            omega
          rw [hk] at h
          cases h
          cases vs with
          | nil => cases hb
          | cons x l =>
            cases hb
            exact ⟨rfl, hs v (List.mem_cons_self ..), fun u hu => hs u (List.mem_cons_of_mem _ hu), by simp⟩
        · rw [if_neg h30] at hb
          have key : ∀ (K k i0 : Nat) (vs acc : List ByteArray) (q : List ByteArray × Nat × List ByteArray), (∀ u ∈ vs, u.size ≤ 281474976710656) → loopL (pendL d p) (badL p c) K k i0 = some j → bLoop (bld d p) K i0 vs acc = some q → q.2.1 = j ∧ (∀ u ∈ q.2.2, u.size ≤ 281474976710656) ∧ q.2.2.length ≤ vs.length := by
            intro K
            induction K with
            | zero =>
              intro k i0 vs acc q hs h1 h2
              cases h1; cases h2
              exact ⟨rfl, hs, Nat.le_refl _⟩
            | succ K ih =>
              intro k i0 vs acc q hs h1 h2
              unfold loopL at h1
              unfold bLoop at h2
              cases hf : pendL d p i0 with
              | none => rw [hf] at h1; cases h1
              | some j1 =>
                rw [hf] at h1
                simp only at h1
                split at h1
                · cases h1
                · cases hm1 : bld d p i0 vs with
                  | none => rw [hm1] at h2; cases h2
                  | some x =>
                    obtain ⟨v1, q1, r1⟩ := x
                    rw [hm1] at h2
                    obtain ⟨rfl, a1, a2, a3⟩ := bld_facts d hs hf hm1
                    obtain ⟨b1, b2, b3⟩ := ih _ _ _ _ _ a2 h1 h2
                    exact ⟨b1, b2, by have : q.2.2.length ≤ r1.length := b3; omega⟩
          cases hm : bLoop (bld d p) c.2.2.toNat (i + 1) vs [] with
          | none => rw [hm] at hb; cases hb
          | some x =>
            rw [hm] at hb
            cases hb
            obtain ⟨b1, b2, b3⟩ := key _ _ _ _ _ _ hs h hm
            exact ⟨b1, by have := joinR_size c x.1; omega, b2, b3⟩

end Go.Proofs.YtdifpemohdnolaaGreat
namespace Go.Proofs.YtdifpemohdnolaaGreat
open Go.RowKit VM

theorem wpList_make_q {P : Program} (w : World) {ops : Array Oper} {rest : List Oper} {o : Oper} {a : Act} {Q : Exit → Act → World → Prop}
    (hg : o.guard = none) (l c : Operand) (t : TypeId) (hop : o.op = Op.makeSlice t l c) (e : TypeId) (i : TypeInfo) (z : Value) (size : Nat) (h1 : P.underlying t = some (.slice e)) (h2 : P.info? e = some i) (h3 : i.zero = some z) (h4 : i.size = size)
    (kl kc : IntKind) (L C : Int) (m : Nat) (hl : a.eval l = .int kl L) (hc : a.eval c = .int kc C) (hL : L = (m : Int)) (hC : C = (m : Int)) (b2 : i.bytes * m ≤ 281474976710656) (b3 : m ≤ maxLen) (M : Array Value) (hM : madeCells z.cells (m * size) = M)
    (hK : wpList P ops Q rest (a.put o.dst (.slice (some ⟨w.heap.size, 0, none⟩) m m)) (w.alloc (.cells M e))) :
    wpList P ops Q (o :: rest) a w := by
  refine wpList_plain hg fun K hK' => ?_
  subst hL
  subst hC
  subst h4
  subst hM
  have hb : (i.bytes : Int) * (m : Int) ≤ 281474976710656 := by
    have h : ((i.bytes * m : Nat) : Int) ≤ 281474976710656 := by omega
    rwa [Int.natCast_mul] at h
  have hrun := run_make (P := P) w t e i z h1 h2 h3 kl kc m m (by omega) (Int.le_refl _) hb (by unfold maxLen at b3; omega)
  simp only [Int.toNat_natCast] at hrun
  unfold Oper.wp
  simp [execOp, hop, hl, hc, hrun, Result.andThen]
  exact hK' _ _ hK
def partsA (K : Nat) (acc : List ByteArray) : Array Value := (acc.map Value.string ++ List.replicate (K - acc.length) (Value.string ⟨#[]⟩)).toArray
theorem partsA_made (K : Nat) : madeCells (Value.string ⟨#[]⟩).cells (K * 1) = partsA K [] := by
  apply Array.toList_inj.1
  show (madeCells #[.string ⟨#[]⟩] (K * 1)).toList = _
  rw [made_rep, Nat.mul_one]
  simp [partsA]
theorem partsA_set {K : Nat} {acc : List ByteArray} {v : ByteArray} (h : acc.length < K) : (partsA K acc).setIfInBounds acc.length (.string v) = partsA K (acc ++ [v]) := by
  apply Array.toList_inj.1
  unfold partsA
  rw [Array.toList_setIfInBounds]
  simp only []
  obtain ⟨r, hr⟩ : ∃ r, K - acc.length = r + 1 := ⟨K - acc.length - 1, by omega⟩
  rw [hr, List.length_append, show K - (acc.length + [v].length) = r by simp; omega, List.set_append_right _ _ (by simp), List.length_map, Nat.sub_self, List.replicate_succ, List.set_cons_zero, List.map_append, List.append_assoc]
  rfl
theorem partsA_get {K : Nat} {acc : List ByteArray} (h : acc.length < K) : (partsA K acc)[acc.length]? = some (.string ⟨#[]⟩) := by
  unfold partsA
  obtain ⟨r, hr⟩ : ∃ r, K - acc.length = r + 1 := ⟨K - acc.length - 1, by omega⟩
  rw [hr, List.getElem?_toArray, List.getElem?_append_right (by simp), List.length_map, Nat.sub_self]
  rfl
theorem partsA_full {K : Nat} {acc : List ByteArray} (h : acc.length = K) : (partsA K acc).toList = acc.map Value.string := by
  unfold partsA
  rw [h, Nat.sub_self]
  simp
theorem BS.far {g B n c : Nat} {p : List Cd} {pA : Option Addr} {w : World} {vs : List ByteArray} (h : BS g B p pA n c w vs) {gp o : Nat} (h1 : B ≤ gp) (h2 : gp ≠ g) (u : Value) : BS g B p pA n c (w.setCell ⟨gp, o, none⟩ u) vs := by
  obtain ⟨⟨A, m, d, q1, q2, q3, q4⟩, q5, q6⟩ := h
  have hc : ∀ (A : Option Addr) (xs : List Value), OutC w g B A xs → OutC (w.setCell ⟨gp, o, none⟩ u) g B A xs := by
    intro A xs h
    rcases h with h | ⟨b, off, e1, e2, e3⟩
    · exact .inl h
    · have hk : Keep (fun k => k ≠ gp) w (w.setCell ⟨gp, o, none⟩ u) := (Keep.refl _ w).setCell (fun q => q rfl) u
      refine .inr ⟨b, off, e1, ⟨e2.1, Nat.le_trans e2.2.1 hk.size, e2.2.2⟩, fun i x hx => (hk.cell (b := b) (by have := e2.1; omega) (off + i)).trans (e3 i x hx)⟩
  exact ⟨⟨A, m, d, q1.far (p := ⟨gp, o, none⟩) (fun e => h2 e.symm) u, q2, q3, hc _ _ q4⟩, hc _ _ q5, q6⟩
def BCon (d : Nat) : Prop := ∀ (g B : Nat) (p : List Cd) (pA : Option Addr) (n c : Nat) (vs : List ByteArray) (i j : Nat) (v : ByteArray) (r : List ByteArray) (w : World),
  p.length ≤ 8192 → vs.length ≤ 8192 → (∀ u ∈ vs, u.size ≤ 281474976710656) → B ≤ w.heap.size → pendL d p i = some j → bld d p i vs = some (v, j, r) → BS g B p pA n c w vs →
  Calls Tryz.prog 41 #[.pointer (some ⟨g, 0, none⟩), .int .i64 (i : Int)] w (BPost g B p pA n c (v, j, r) w)
set_option linter.unusedSimpArgs false in
set_option maxRecDepth 100000 in
set_option maxHeartbeats 6400000 in
theorem build_other (d : Nat) (ih : BCon d) (g B : Nat) (p : List Cd) (pA : Option Addr) (n c : Nat) (vs : List ByteArray) (i j : Nat) (w : World)
    (hn8 : p.length ≤ 8192) (hv8 : vs.length ≤ 8192) (hvs : ∀ u ∈ vs, u.size ≤ 281474976710656) (hBw : B ≤ w.heap.size) (t : Cd) (ht : p[i]? = some t) (h30 : t.1 ≠ 30) (hp : permL t = true) (hlo : loopL (pendL d p) (badL p t) t.2.2.toNat 0 (i + 1) = some j)
    (q : List ByteArray × Nat × List ByteArray) (hbl : bLoop (bld d p) t.2.2.toNat (i + 1) vs [] = some q) (hS : BS g B p pA n c w vs) :
    Calls Tryz.prog 41 #[.pointer (some ⟨g, 0, none⟩), .int .i64 (i : Int)] w (BPost g B p pA n c (joinR t q.1, q.2.1, q.2.2) w) := by
  obtain ⟨i0, hi0, hiz0, hiz1, hiz2⟩ := info_parts val_info
  have hin : i < p.length := (List.getElem?_eq_some_iff.1 ht).1
  have hjn : i + 1 + t.2.2.toNat ≤ p.length := by
    have h1 := loopL_grow (fun a b h => (pendL_lt d h).1) _ _ _ _ hlo
    have h2 := loopL_le (n := p.length) (fun a b h => pendL_lt d h) _ _ _ _ (by omega) hlo
    omega
  have hk0 := perm_kids hp
  have hnp := hS.len
  have HJP : Hid (t.1 = 36 → 0 ≤ t.2.1 ∧ t.2.1 < t.2.2) := Lib.hid (fun e => by
    have q : permL t = decide (0 ≤ t.2.1 ∧ t.2.1 < t.2.2) := by
      unfold permL
      rw [if_neg (by omega), if_neg (by omega), if_neg (by omega), if_neg (by omega), if_neg (by omega), if_pos e]
    rw [hp] at q
    exact of_decide_eq_true q.symm)
  obtain ⟨⟨A, m, dd, hbx, hm, hmd, ho⟩, hpt, _⟩ := id hS
  obtain ⟨b, off, hAe, hb, x0, x1, x2⟩ := cd_at hpt.in_ ht
  subst hAe
  have hgl := hbx.lt
  have hbx0 := hbx.cell 0
  change w.cell? ⟨g, 0, none⟩ = some (.slice (some ⟨b, off, none⟩) n c) at hbx0
  have HI := Lib.hid ih
  have HN8 := Lib.hid hn8
  have HV8 := Lib.hid hv8
  have HVS := Lib.hid hvs
  have HBW := Lib.hid hBw
  have HNP := Lib.hid hnp
  have HLO := Lib.hid hlo
  have HBL := Lib.hid hbl
  have HGL := Lib.hid hgl
  have HS := hide hS
  have hg30 : ((t.1 : Int) == 30) = false := beq_eq_false_iff_ne.2 h30
  have hn9 : n ≤ 8192 := by omega
  have hin2 : i < n := by omega
  have hjn2 : i + 1 + t.2.2.toNat ≤ n := by omega
  clear ih hn8 hv8 hvs hBw ht h30 hp hlo hbl hS hbx hm hmd ho hpt hnp hin hjn hgl
  obtain ⟨k, num, kids⟩ := t
  dsimp only at *
  obtain ⟨K, rfl⟩ : ∃ K : Nat, kids = K := ⟨kids.toNat, by omega⟩
  rw [Int.toNat_natCast] at HLO HBL hjn2
  have hK8 : K ≤ 8192 := by omega
  have hKi : (0 : Int) ≤ (K : Int) := by omega
  have gi : IntKind.i64.wrap ((i : Int) + 1) = ((i + 1 : Nat) : Int) := by rw [IntWalk.i64_in _ (by omega)]; simp
  have hbW : Below w.heap.size w ((w.alloc (.cells #[.int .i64 k, .int .i64 num, .int .i64 (K : Int)] 27)).alloc (.cells (partsA K []) 23)) := ((Below.refl _ w).alloc (Nat.le_refl _) _).alloc (by simp) _
  have HS0 := hide ((unhide HS).new hbW)
  have HK0 : Hid (BKeep g w ((w.alloc (.cells #[.int .i64 k, .int .i64 num, .int .i64 (K : Int)] 27)).alloc (.cells (partsA K []) 23))) := hide (Keep.below hbW fun _ q => q.1)
  have HND0 := hide ((Blk.new w 27 #[.int .i64 k, .int .i64 num, .int .i64 (K : Int)]).alloc (.cells (partsA K []) 23))
  have HPT0 := hide (Blk.new (w.alloc (.cells #[.int .i64 k, .int .i64 num, .int .i64 (K : Int)] 27)) 23 (partsA K []))
  have e1 : (w.alloc (.cells #[.int .i64 k, .int .i64 num, .int .i64 (K : Int)] 27)).heap.size = w.heap.size + 1 := by simp
  rw [e1] at HPT0
  clear hbW e1 HS
  go_enter Tryz.func41, Tryz.ntmps41
  go_wp2_with (at_make; refine wpList_make_q _ rfl _ _ 24 rfl 23 i0 (.string ⟨#[]⟩) 1 Tryz.underlying24 hi0 hiz0 hiz1 .i64 .i64 _ _ K rfl rfl rfl rfl (by rw [hiz2]; omega) (by unfold maxLen; omega) (partsA K []) (partsA_made K) ?_)
  clear x0 x1 x2 hbx0
  have gd : decide (n ≤ i) = false := decide_eq_false (by omega)
  try simp only [gd]
  clear gd
  go_loopw [1, 43] (fun iv kv wr => ∃ (kk iq : Nat) (acc vs2 : List ByteArray), kv = .int .i64 kk ∧ iv = .int .i64 iq ∧ kk ≤ K ∧ kk + 1 ≤ iq ∧ iq ≤ n ∧ Hid (acc.length = kk) ∧ Hid (loopL (pendL d p) (badL p (k, num, (K : Int))) (K - kk) kk iq = some j) ∧ Hid (bLoop (bld d p) (K - kk) iq vs2 acc = some q) ∧ Hid (vs2.length ≤ 8192) ∧ Hid (∀ u ∈ vs2, u.size ≤ 281474976710656) ∧ Hid (∀ u ∈ acc, u.size ≤ 281474976710656) ∧ Hid (BS g B p (some ⟨b, off, none⟩) n c wr vs2) ∧ Hid (BKeep g w wr) ∧ Hid (Blk wr w.heap.size 27 #[.int .i64 k, .int .i64 num, .int .i64 (K : Int)]) ∧ Hid (Blk wr (w.heap.size + 1) 23 (partsA K acc))) (fun _ kv _ => K - (intOf kv).toNat)
  case atStart => exact ⟨0, i + 1, [], vs, rfl, by simp, by omega, by omega, by omega, rfl, HLO.out, HBL.out, HV8.out, HVS.out, fun u hu => (by cases hu), unhide HS0, unhide HK0, unhide HND0, unhide HPT0⟩
  case round =>
    obtain ⟨kk, iq, acc, vs2, rfl, rfl, hkk, hkq, hiq, hal, hL, hBq, hv2, hvs2, hacc, hS2, hk2, hnd, hpt2⟩ := hrel
    clear HLO HBL HS0 HK0 HND0 HPT0
    by_cases hkm : kk < K
    · have hL2 := (loopL_step (f := pendL d p) (bad := badL p (k, num, (K : Int))) (i := iq) hkm).symm.trans hL.out
      have hB2 := (bLoop_step (f := bld d p) (i := iq) (vs := vs2) (acc := acc) hkm).symm.trans hBq.out
      cases hq : pendL d p iq with
      | none => rw [hq] at hL2; cases hL2
      | some jq =>
        rw [hq] at hL2
        simp only at hL2
        have hL3 : loopL (pendL d p) (badL p (k, num, (K : Int))) (K - (kk + 1)) (kk + 1) jq = some j := by
          split at hL2
          · cases hL2
          · exact hL2
        cases hb2 : bld d p iq vs2 with
        | none => rw [hb2] at hB2; cases hB2
        | some x =>
          obtain ⟨v1, q1, r1⟩ := x
          obtain ⟨rfl, sv1, sr1, lr1⟩ := bld_facts d hvs2.out hq hb2
          rw [hb2] at hB2
          have HB3 : Hid (bLoop (bld d p) (K - (kk + 1)) q1 r1 (acc ++ [v1]) = some q) := Lib.hid hB2
          have HL3 := Lib.hid hL3
          have hjq := pendL_lt d hq
          have hjn3 : q1 ≤ n := by have := HNP.out; omega
          have hszw := hk2.out.size
          have HC := hide (HI.out g B p (some ⟨b, off, none⟩) n c vs2 iq q1 v1 r1 wr HN8.out hv2.out hvs2.out (by have := HBW.out; omega) hq hb2 hS2.out)
          have HSV := Lib.hid sv1
          have HSR := Lib.hid sr1
          have HLR : Hid (r1.length ≤ 8192) := Lib.hid (by have := hv2.out; omega)
          have hkm2 := Lib.hid hkm
          have HPG : Hid (∀ W, Blk W (w.heap.size + 1) 23 (partsA K acc) → W.cell? ⟨w.heap.size + 1, kk, none⟩ = some (.string ⟨#[]⟩)) := Lib.hid (fun W h => by
            have q := h.cell kk
            have e := hal.out
            rw [← e, partsA_get (by omega)] at q
            rw [← e]; exact q)
          have HPS : Hid ((partsA K acc).setIfInBounds kk (.string v1) = partsA K (acc ++ [v1])) := Lib.hid (by have e := hal.out; rw [← e]; exact partsA_set (by omega))
          have HALN : Hid ((acc ++ [v1]).length = kk + 1) := Lib.hid (by rw [List.length_append, hal.out]; rfl)
          clear hL2 hL3 hB2 hL hBq hq hb2 sv1 sr1 lr1
          go_wp2_with fail
          refine (unhide HC).mono ?_
          rintro e w3 ⟨rfl, hS3, hk3⟩
          have hsz3 := hk3.size
          have hp3 := hpt2.out.keep hk3 ⟨hpt2.out.lt, by have := HGL.out; omega⟩
          have hn3 := hnd.out.keep hk3 ⟨hnd.out.lt, by have := HGL.out; omega⟩
          have z0 := HPG.out w3 hp3
          have f0 := hp3.frozen kk
          have HP4 : Hid (Blk (w3.setCell ⟨w.heap.size + 1, kk, none⟩ (.string v1)) (w.heap.size + 1) 23 (partsA K (acc ++ [v1]))) := hide (by rw [← HPS.out]; exact hp3.set_ kk (.string v1))
          have HN4 := hide (hn3.far (p := ⟨w.heap.size + 1, kk, none⟩) (by simp) (.string v1))
          have HS4 := hide (hS3.far (gp := w.heap.size + 1) (o := kk) (by have := HBW.out; omega) (by have := HGL.out; omega) (.string v1))
          have hk4 : BKeep g w w3 := hk2.out.trans' hk3
          have HK4 : Hid (BKeep g w (w3.setCell ⟨w.heap.size + 1, kk, none⟩ (.string v1))) := hide (Keep.setCell hk4 (p := ⟨w.heap.size + 1, kk, none⟩) (fun q => by have h9 : w.heap.size + 1 < w.heap.size := q.1; omega) _)
          have HA4 : Hid (∀ u ∈ acc ++ [v1], u.size ≤ 281474976710656) := Lib.hid (fun u hu => by
            rcases List.mem_append.1 hu with h | h
            · exact hacc.out u h
            · simp at h; subst h; exact HSV.out)
          clear hS3 hk3 hp3 hn3 hk4 HC
          dsimp only
          go_wp2_with fail
          go_roundw
          case rel => exact ⟨kk + 1, q1, acc ++ [v1], r1, by go_num, rfl, by have := hkm2.out; omega, by omega, hjn3, HALN.out, HL3.out, HB3.out, HLR.out, HSR.out, HA4.out, unhide HS4, unhide HK4, unhide HN4, unhide HP4⟩
          case measure => have := hkm2.out; simp [intOf]; omega
    · have hkm3 : kk = K := by omega
      subst hkm3
      have HQ : Hid (q = (acc, iq, vs2)) := Lib.hid (by have h := hBq.out; rw [Nat.sub_self] at h; cases h; rfl)
      have z0 := hnd.out.cell 0
      have z1 := hnd.out.cell 1
      have z2 := hnd.out.cell 2
      change wr.cell? ⟨_, 0, none⟩ = some (.int .i64 k) at z0
      change wr.cell? ⟨_, 1, none⟩ = some (.int .i64 num) at z1
      change wr.cell? ⟨_, 2, none⟩ = some (.int .i64 (kk : Int)) at z2
      have hin : InC wr (some ⟨w.heap.size + 1, 0, none⟩) (acc.map Value.string) := by
        refine .inr ⟨_, 0, rfl, hpt2.out.lt, fun x u hu => ?_⟩
        rw [Nat.zero_add, hpt2.out.cell, ← Array.getElem?_toList, partsA_full hal.out]
        exact hu
      have HJ := hide (join_any (k, num, (kk : Int)) acc (some ⟨w.heap.size + 1, 0, none⟩) kk kk wr (fun e => by have h := HJP.out e; have e2 := hal.out; exact ⟨h.1, by rw [e2]; exact h.2⟩) hal.out.symm hK8 (Nat.le_refl _) hacc.out hin)
      clear hL hBq hin
      go_wp2_with fail
      refine (unhide HJ).mono ?_
      rintro e w4 ⟨rfl, hb4⟩
      have HS5 := hide (hS2.out.new hb4)
      have HK5 : Hid (BKeep g w w4) := hide (hk2.out.trans' (Keep.below hb4 fun _ q => q.1))
      clear hb4 HJ
      go_wp2_with fail
      go_ret2
      rw [HQ.out]
      exact ⟨rfl, unhide HS5, unhide HK5⟩
theorem build_up : ∀ d : Nat, BCon d := by
  intro d
  induction d with
  | zero => intro g B p pA n c vs i j v r w _ _ _ _ h; cases h
  | succ d ih =>
    intro g B p pA n c vs i j v r w hn8 hv8 hvs hBw h hb hS
    unfold pendL at h
    unfold bld at hb
    cases ht : p[i]? with
    | none => rw [ht] at h; cases h
    | some t =>
      rw [ht] at h hb
      simp only at h hb
      cases hp : permL t with
      | false => rw [hp, if_neg (by decide)] at h; cases h
      | true =>
        rw [hp, if_pos rfl] at h
        by_cases h30 : t.1 = 30
        · rw [if_pos h30] at hb
          obtain ⟨k, num, kids⟩ := t
          simp only at h30
          subst h30
          cases vs with
          | nil => cases hb
          | cons x l =>
            cases hb
            exact build_pvar g B p pA n c i w hn8 num kids ht v r (by simp at hv8; omega) hS
        · rw [if_neg h30] at hb
          cases hm : bLoop (bld d p) t.2.2.toNat (i + 1) vs [] with
          | none => rw [hm] at hb; cases hb
          | some q =>
            rw [hm] at hb
            cases hb
            exact build_other d ih g B p pA n c vs i _ w hn8 hv8 hvs hBw t ht h30 hp h q hm hS

end Go.Proofs.YtdifpemohdnolaaGreat
