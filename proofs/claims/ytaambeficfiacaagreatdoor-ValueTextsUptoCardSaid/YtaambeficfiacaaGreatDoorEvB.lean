/- The evaluator: reading, making, writing, slices, literals, append. No conditions. -/
import Derived.Laws.Slices
import Derived.Laws.Append
import Derived.Laws.MakeOwn
import Derived.Laws.AppendOwn
import Derived.Test.YtaambeficfiacaaGreatDoorEvA
namespace Go.Proofs.YtaambeficfiacaaGreatDoor.Ev
open Go Go.RowKit

theorem blt_lt {a b : Nat} (h : Nat.blt a b = true) : a < b := Nat.le_of_ble_eq_true h
def VOk (P : Program) (w0 : Bs) (ρ : Ren) (st : St) (w : World) (s : Sem Value) (v : Value) (st' : St) : Prop :=
  ∃ ρ' u w', Sub ρ ρ' ∧ s.run P w = .ok u w' ∧ VR ρ' v u ∧ Rel w0 ρ' st' w' ∧ Fr st st'
def SOk (P : Program) (ρ : Ren) (w : World) (s : Sem Value) (v : Value) (st st' : St) : Prop := st' = st ∧ ∃ u, s.run P w = .ok u w ∧ VR ρ v u
theorem VOk.same {P : Program} {w0 : Bs} {w : World} {ρ : Ren} {st : St} {s : Sem Value} {v u : Value} (h : Rel w0 ρ st w) (hs : s.run P w = .ok u w) (hv : VR ρ v u) : VOk P w0 ρ st w s v st :=
  ⟨ρ, u, w, Sub.refl _, hs, hv, h, Fr.refl _⟩
theorem run_size {P : Program} {t : TypeId} {k : Nat} (h : tySize P t = some k) (w : World) : (sizeOf t).run P w = .ok k w := by
  unfold tySize at h
  cases hi : P.info? t with
  | none => rw [hi] at h; cases h
  | some i => rw [hi] at h; cases h; simp [sizeOf, typeInfo, hi]
theorem run_agg {P : Program} {t : TypeId} {b : Bool} (h : tyAgg P t = some b) (w : World) : (isAgg t).run P w = .ok b w := by
  unfold tyAgg at h
  cases hd : P.underlying t with
  | none => rw [hd] at h; cases h
  | some d =>
    rw [hd] at h
    unfold isAgg
    rw [Sem.run_bind, run_underlying hd]
    cases d <;> (cases h; rfl)
theorem run_zeroV {P : Program} {t : TypeId} {i : TypeInfo} {z : Value} (h : P.info? t = some i) (hz : i.zero = some z) (w : World) : (zeroValue t).run P w = .ok z w := by
  simp [zeroValue, typeInfo, h, hz]
theorem VR.cells {ρ : Ren} {v u : Value} (h : VR ρ v u) : LR ρ (cellsL v) u.cells.toList := by
  have one : ∀ {v u : Value}, VR ρ v u → cellsL v = [v] → u.cells = #[u] → LR ρ (cellsL v) u.cells.toList := by
    intro v u h e1 e2
    rw [e1, e2]
    refine ⟨rfl, fun i x y hx hy => ?_⟩
    cases i with
    | zero => simp at hx hy; subst hx; subst hy; exact h
    | succ i => simp at hx
  cases h with
  | agg h h2 =>
    rename_i xs ys
    cases xs with
    | mk l =>
      refine ⟨by simpa [cellsL, Value.cells] using h, fun i x y hx hy => h2 i x y ?_ ?_⟩
      · simpa [cellsL] using hx
      · simpa [Value.cells] using hy
  | bool b => exact one (.bool b) rfl rfl
  | int k n => exact one (.int k n) rfl rfl
  | float k n => exact one (.float k n) rfl rfl
  | complex k n m => exact one (.complex k n m) rfl rfl
  | string s => exact one (.string s) rfl rfl
  | nilp => exact one .nilp rfl rfl
  | ptr h => exact one (.ptr h) rfl rfl
  | nils n c => exact one (.nils n c) rfl rfl
  | sl h hn => exact one (.sl h hn) rfl rfl
  | sle h => exact one (.sle h) rfl rfl
  | nilm => exact one .nilm rfl rfl
  | mp h => exact one (.mp h) rfl rfl
  | yieldf h => exact one (.yieldf h) rfl rfl
  | sym h hr hn => exact one (.sym h hr hn) rfl rfl
  | nilFunc => exact one .nilFunc rfl rfl
  | nilIface => exact one .nilIface rfl rfl
  | iface t h => exact one (.iface t h) rfl rfl
  | tuple h h2 => exact one (.tuple h h2) rfl rfl
  | func fn h h2 h3 h4 => exact one (.func fn h h2 h3 h4) rfl rfl
theorem LR.at0 {ρ : Ren} {l u : List Value} (h : LR ρ l u) : ∀ i, i < l.length → ∃ v c, (putCells l .leaf 0).get i = some v ∧ VR ρ v c ∧ u[i]? = some c := by
  intro i hi
  have hu : i < u.length := by rw [← h.1]; exact hi
  refine ⟨l[i], u[i], ?_, h.2 i _ _ (List.getElem?_eq_getElem hi) (List.getElem?_eq_getElem hu), List.getElem?_eq_getElem hu⟩
  rw [get_putCells, if_pos (by omega)]; exact List.getElem?_eq_getElem hi
theorem thaw0 (cs : Array Value) : ∀ i, i < cs.size → ¬ ((0, 0) : Nat × Nat).1 ≤ i ∨ ¬ i < ((0, 0) : Nat × Nat).2 := by
  intro i _; right; exact Nat.not_lt_zero _
theorem thaw00 (cs : Array Value) : ∀ i, i < cs.size → ¬ (((0, 0) : Nat × Nat).1 ≤ i ∧ i < ((0, 0) : Nat × Nat).2) := by
  rintro i _ ⟨_, h⟩; exact absurd h (Nat.not_lt_zero _)
theorem run_newVar (P : Program) (w : World) (t : TypeId) (v : Value) : (newVar t v).run P w = .ok ⟨w.heap.size, 0, none⟩ (w.alloc (.cells v.cells t)) := by
  simp [newVar, newRow]
theorem box_ok {P : Program} {w0 : Bs} {w : World} {ρ : Ren} {st st' : St} {v u x : Value} {el : TypeId} (h : Rel w0 ρ st w) (hv : VR ρ v u) (e : aBox el (cellsL v) st = some (x, st')) :
    VOk P w0 ρ st w (Instr.box el u) x st' := by
  unfold aBox at e
  cases e
  have hL := hv.cells
  obtain ⟨ρ', h1, h2, h3, h4⟩ := h.new (putCells (cellsL v) .leaf 0) (cellsL v).length el (cellsL v).length true u.cells 0 (fun i hi => by
    obtain ⟨a, b, q1, q2, q3⟩ := hL.at0 i hi
    exact ⟨a, b, q1, q2, by simpa using q3⟩) (fun _ => by rw [hL.1]; simp) (fun q => by cases q) (0, 0) (thaw00 _)
  refine ⟨ρ', _, _, h1, ?_, VR.ptr h2, h3, h4⟩
  simp [Instr.box, run_newVar]
theorem alloc_ok {P : Program} {w0 : Bs} {w : World} {ρ : Ren} {st st' : St} {z x : Value} {el : TypeId} {i : TypeInfo} (h : Rel w0 ρ st w) (hi : P.info? el = some i) (hz : i.zero = some z) (hg : grd 3 z = true)
    (e : aBox el (cellsL z) st = some (x, st')) : VOk P w0 ρ st w (Instr.alloc el true (.tuple #[])) x st' := by
  obtain ⟨ρ', u, w', h1, h2, h3, h4, h5⟩ := box_ok (P := P) h (VR.refl ρ 3 z hg) e
  refine ⟨ρ', u, w', h1, ?_, h3, h4, h5⟩
  have : (Instr.alloc el true (.tuple #[])).run P w = (Instr.box el z).run P w := by
    unfold Instr.alloc
    rw [Sem.run_bind, run_zeroV hi hz]
    rfl
  rw [this]; exact h2
theorem run_loadL {P : Program} {w : World} {g o : Nat} {u : List Value} (h : ∀ (i : Nat) (v : Value), u[i]? = some v → w.cell? ⟨g, o + i, none⟩ = some v) : (loadCells ⟨g, o, none⟩ u.length).run P w = .ok u.toArray w :=
  run_loadCells_list w ⟨g, o, none⟩ u fun j v hj => by rw [add_none]; exact h j v hj
theorem load_ad {P : Program} {w0 : Bs} {w : World} {ρ : Ren} {st st' : St} {v u x : Value} {t : TypeId} (h : Rel w0 ρ st w) (hv : VR ρ v u) (e : aLoad P t v st = some (x, st')) :
    st' = st ∧ ∃ y ad, u = .pointer (some ad) ∧ (loadVar t ad).run P w = .ok y w ∧ VR ρ x y := by
  cases hv <;> try (simp [aLoad] at e; done)
  rename_i id off tg ht
  unfold aLoad at e
  simp only at e
  cases hb : st.heap.get id with
  | none => rw [hb] at e; cases e
  | some b =>
    rw [hb] at e
    simp only at e
    cases hk : tySize P t with
    | none => rw [hk] at e; cases e
    | some k =>
      cases ha : tyAgg P t with
      | none => rw [hk, ha] at e; cases e
      | some ag =>
        rw [hk, ha] at e
        cases ag with
        | true =>
          simp only at e
          cases hc : Nat.ble (off + k) b.n with
          | false => rw [hc] at e; cases e
          | true =>
            rw [hc] at e
            simp only [cond_true] at e
            cases hl : getCellsFrom b.cells k off with
            | none => rw [hl] at e; cases e
            | some l =>
              rw [hl] at e
              cases e
              obtain ⟨t', us, q1, q2, q3, q4⟩ := h.get hb (Nat.le_of_ble_eq_true hc) hl ht
              rw [ht] at q1; cases q1
              refine ⟨rfl, .agg us.toArray, _, rfl, ?_, ?_⟩
              · simp only [loadVar, Sem.run_bind, Sem.run_pure, Result.andThen_ok, run_agg ha, run_size hk, if_true]
                rw [← q3, run_loadL q4]; rfl
              · exact .agg (by simpa using q2.1) fun i a c q5 q6 => q2.2 i a c (by simpa using q5) (by simpa using q6)
        | false =>
          simp only at e
          cases hc : Nat.blt off b.n with
          | false => rw [hc] at e; cases e
          | true =>
            rw [hc] at e
            simp only [cond_true] at e
            cases hl : b.cells.get off with
            | none => rw [hl] at e; cases e
            | some y =>
              rw [hl] at e
              cases e
              obtain ⟨c, q1, q2⟩ := h.load hb ht (blt_lt hc) hl
              refine ⟨rfl, c, _, rfl, ?_, q1⟩
              simp only [loadVar, Sem.run_bind, Result.andThen_ok, run_agg ha, Bool.false_eq_true, if_false, run_load, q2]
theorem load_ok {P : Program} {w0 : Bs} {w : World} {ρ : Ren} {st st' : St} {v u x : Value} {t : TypeId} (h : Rel w0 ρ st w) (hv : VR ρ v u) (e : aLoad P t v st = some (x, st')) :
    VOk P w0 ρ st w (Instr.loadAt t u) x st' := by
  obtain ⟨rfl, y, ad, rfl, h1, h2⟩ := load_ad (P := P) h hv e
  exact VOk.same h (u := y) (by simp only [Instr.loadAt, Instr.sureAddr, Sem.run_bind, Sem.run_pure, Result.andThen_ok, h1]) h2
theorem store_ok {P : Program} {w0 : Bs} {w : World} {ρ : Ren} {st st' : St} {v u y x : Value} {t : TypeId} (h : Rel w0 ρ st w) (hv : VR ρ v u) (hx : VR ρ y x) (e : aStore P t v y st = some st') :
    ∃ w', (Instr.storeAt t u x).run P w = .ok () w' ∧ Rel w0 ρ st' w' ∧ Fr st st' := by
  cases hv <;> try (simp [aStore] at e; done)
  rename_i id off tg ht
  unfold aStore at e
  simp only at e
  cases hk : tySize P t with
  | none => rw [hk] at e; cases e
  | some k =>
    rw [hk] at e
    simp only at e
    cases hc : Nat.beq k (cellsL y).length with
    | false => rw [hc] at e; cases e
    | true =>
      rw [hc] at e
      simp only [cond_true] at e
      cases hs : aStoreCells id off (cellsL y) st with
      | none => rw [hs] at e; cases e
      | some s2 =>
        rw [hs] at e
        cases e
        obtain ⟨t', w', q1, q2, q3, q4⟩ := h.set (P := P) hs hx.cells ht
        rw [ht] at q1; cases q1
        refine ⟨w', ?_, q3, q4⟩
        have hsz : x.cells.size = k := by
          have := hx.cells.1
          rw [Nat.eq_of_beq_eq_true hc]; simpa using this.symm
        simp only [Instr.storeAt, Instr.sureAddr, storeVar, Sem.run_bind, Sem.run_pure, Result.andThen_ok, run_size hk, hsz, ne_eq, not_true, if_false]
        exact q2
theorem fieldAddr_ok {P : Program} {w : World} {ρ : Ren} {st st' : St} {v u x : Value} {s : TypeId} {f : Nat} (hv : VR ρ v u) (e : aFieldAddr P s v f st = some (x, st')) :
    SOk P ρ w (Instr.fieldAt s u f) x st st' := by
  cases hv <;> try (simp [aFieldAddr] at e; done)
  rename_i id off tg ht
  unfold aFieldAddr at e
  cases hd : P.underlying s with
  | none => simp [hd] at e
  | some d =>
    cases d <;> try (simp [hd] at e; done)
    rename_i fs
    simp only [hd] at e
    cases hf : fs[f]? with
    | none => rw [hf] at e; cases e
    | some fd =>
      rw [hf] at e
      simp only at e
      cases hk : tySize P fd.type with
      | none => rw [hk] at e; cases e
      | some k =>
        rw [hk] at e
        simp only at e
        cases hc : Nat.beq k 0 with
        | true => rw [hc] at e; cases e
        | false =>
          rw [hc] at e
          cases e
          have hk0 : k ≠ 0 := by intro q; subst q; cases hc
          refine ⟨rfl, .pointer (some ⟨tg.blk, tg.base + off + fd.offset, none⟩), ?_, ?_⟩
          · simp only [Instr.fieldAt, Sem.run_bind, run_underlying hd, Result.andThen_ok, hf, Instr.sureAddr, Sem.run_pure, fieldPlace, run_size hk, hk0, if_false, add_none]
          · rw [Nat.add_assoc]; exact .ptr ht
theorem natIdx_ok {ρ : Ren} {v u : Value} {i : Nat} (h : VR ρ v u) (e : natIdx v = some i) : ∃ k, u = .int k (i : Int) := by
  cases h <;> try (simp [natIdx] at e; done)
  rename_i k n
  cases n with
  | ofNat n => simp [natIdx] at e; subst e; exact ⟨k, rfl⟩
  | negSucc n => simp [natIdx] at e
theorem indexAddr_ok {P : Program} {w : World} {ρ : Ren} {st st' : St} {v u a b x : Value} {t : TypeId} (hv : VR ρ v u) (ha : VR ρ a b) (e : aIndexAddr P t v a st = some (x, st')) :
    SOk P ρ w (Instr.indexAt t u b) x st st' := by
  unfold aIndexAddr at e
  cases hi : natIdx a with
  | none => rw [hi] at e; split at e <;> first | cases e | simp_all
  | some i =>
    obtain ⟨k, rfl⟩ := natIdx_ok ha hi
    cases hd : P.underlying t with
    | none => simp [hd] at e
    | some d =>
      rw [hd, hi] at e
      cases d <;> try (simp at e; done)
      · rename_i el
        cases hv <;> try (simp at e; done)
        rename_i id off len cap tg ht hn
        simp only at e
        cases hk : tySize P el with
        | none => rw [hk] at e; cases e
        | some sz =>
          rw [hk] at e
          simp only at e
          cases hc : Nat.blt i len with
          | false => rw [hc] at e; cases e
          | true =>
            rw [hc] at e
            cases e
            have hlt : i < len := blt_lt hc
            refine ⟨rfl, .pointer (some ⟨tg.blk, tg.base + off + i * sz, none⟩), ?_, ?_⟩
            · have h1 : (0 : Int) ≤ (i : Int) ∧ (i : Int) < (len : Int) := ⟨by omega, by omega⟩
              simp only [Instr.indexAt, asIntOf, Sem.run_bind, Sem.run_pure, Result.andThen_ok, run_underlying hd, h1, and_self, if_true, run_size hk, add_none, Int.toNat_natCast]
            · rw [Nat.add_assoc]; exact .ptr ht
      · rename_i len el
        cases hv <;> try (simp at e; done)
        rename_i id off tg ht
        simp only at e
        cases hk : tySize P el with
        | none => rw [hk] at e; cases e
        | some sz =>
          rw [hk] at e
          simp only at e
          cases hc : Nat.blt i len with
          | false => rw [hc] at e; cases e
          | true =>
            rw [hc] at e
            cases e
            have hlt : i < len := blt_lt hc
            refine ⟨rfl, .pointer (some ⟨tg.blk, tg.base + off + i * sz, none⟩), ?_, ?_⟩
            · have h1 : (0 : Int) ≤ (i : Int) ∧ (i : Int) < (len : Int) := ⟨by omega, by omega⟩
              simp only [Instr.indexAt, asIntOf, Sem.run_bind, Sem.run_pure, Result.andThen_ok, run_underlying hd, Instr.sureAddr, h1, and_self, if_true, run_size hk, add_none, Int.toNat_natCast]
            · rw [Nat.add_assoc]; exact .ptr ht

theorem capR_small {t : Tgt} {c : Nat} (h : c < big) : capR t c = c := if_pos h
theorem capR_big {t : Tgt} {c : Nat} (h : ¬ c < big) : capR t c = t.cap - (c - big) := if_neg h
theorem run_sliceB {P : Program} {w : World} (k : IntKind) (i y : Nat) (code : BoundsCode) (h : i ≤ y) : (Instr.sliceBound (.int k (i : Int)) y code).run P w = .ok i w := by
  have h1 : (0 : Int) ≤ (i : Int) ∧ (i : Int) ≤ (y : Int) := ⟨by omega, by omega⟩
  simp only [Instr.sliceBound, asIntOf, Sem.run_bind, Sem.run_pure, Result.andThen_ok, h1, and_self, if_true, Int.toNat_natCast]
/-- an index that may be left out -/
def OI (lo : Option Value) (l d : Nat) : Prop := (lo = none ∧ l = d) ∨ ∃ k, lo = some (.int k (l : Int))
def OM (hi : Option Value) (h : Option Nat) : Prop := (hi = none ∧ h = none) ∨ ∃ k i, hi = some (.int k ((i : Nat) : Int)) ∧ h = some i
theorem bounds_nn {P : Program} {w : World} {isS : Bool} {len cap l : Nat} {lo : Option Value} (hl : OI lo l 0) (h : l ≤ len) :
    (Instr.sliceBounds isS len cap lo none none).run P w = .ok (l, len, cap) w := by
  rcases hl with ⟨rfl, rfl⟩ | ⟨k, rfl⟩
  · simp [Instr.sliceBounds]
  · simp [Instr.sliceBounds, run_sliceB k l len _ h]
theorem bounds_sn {P : Program} {w : World} {isS : Bool} {len cap l : Nat} {lo : Option Value} (hl : OI lo l 0) (k : IntKind) (i : Nat) (h : l ≤ i) (h2 : i ≤ cap) :
    (Instr.sliceBounds isS len cap lo (some (.int k (i : Int))) none).run P w = .ok (l, i, cap) w := by
  rcases hl with ⟨rfl, rfl⟩ | ⟨k', rfl⟩
  · simp [Instr.sliceBounds, run_sliceB k i cap _ h2]
  · simp [Instr.sliceBounds, run_sliceB k i cap _ h2, run_sliceB k' l i _ h]
theorem bounds_ss {P : Program} {w : World} {isS : Bool} {len cap l : Nat} {lo : Option Value} (hl : OI lo l 0) (k k2 : IntKind) (i m : Nat) (h : l ≤ i) (h2 : i ≤ m) (h3 : m ≤ cap) :
    (Instr.sliceBounds isS len cap lo (some (.int k (i : Int))) (some (.int k2 (m : Int)))).run P w = .ok (l, i, m) w := by
  rcases hl with ⟨rfl, rfl⟩ | ⟨k', rfl⟩
  · simp [Instr.sliceBounds, run_sliceB k i m _ h2, run_sliceB k2 m cap _ h3]
  · simp [Instr.sliceBounds, run_sliceB k i m _ h2, run_sliceB k2 m cap _ h3, run_sliceB k' l i _ h]
theorem off_ite (a b o x : Nat) : (if a = b then (⟨x, o, none⟩ : Addr) else ⟨x, o + 0, none⟩) = ⟨x, o, none⟩ := by split <;> rfl
theorem sliceRun {P : Program} {w : World} {t e : TypeId} {k : Nat} (hd : P.underlying t = some (.slice e)) (hk : tySize P e = some k) (a : Addr) (len cap l h m : Nat) (lo hi mx : Option Value)
    (hb : (Instr.sliceBounds true len cap lo hi mx).run P w = .ok (l, h, m) w) :
    (Instr.sliceAt t (.slice (some a) len cap) lo hi mx).run P w = .ok (.slice (some (if m = l then a else a.add (l * k))) (h - l) (m - l)) w := by
  simp only [Instr.sliceAt, Sem.run_bind, run_underlying hd, Result.andThen_ok, Instr.slice, hb, run_size hk, Sem.run_pure]
  split <;> rfl
theorem sliceRunA {P : Program} {w : World} {t e : TypeId} {k n : Nat} (hd : P.underlying t = some (.array n e)) (hk : tySize P e = some k) (a : Addr) (l h m : Nat) (lo hi mx : Option Value)
    (hb : (Instr.sliceBounds false n n lo hi mx).run P w = .ok (l, h, m) w) :
    (Instr.sliceAt t (.pointer (some a)) lo hi mx).run P w = .ok (.slice (some (if m = l then a else a.add (l * k))) (h - l) (m - l)) w := by
  simp only [Instr.sliceAt, Sem.run_bind, run_underlying hd, Result.andThen_ok, Instr.sureAddr, hb, run_size hk, Sem.run_pure]
theorem vr_slice {ρ : Ren} {id off : Nat} {tg : Tgt} (ht : ρ id = some tg) (k m m' l n c : Nat) (hc : c = capR tg m') (hn : n ≤ c) (hm : m = l ↔ (bif Nat.beq m l then true else false) = true) :
    VR ρ (.slice (some ⟨id, bif Nat.beq m l then off else off + l * k, none⟩) n m') (.slice (some (if m = l then (⟨tg.blk, tg.base + off, none⟩ : Addr) else (⟨tg.blk, tg.base + off, none⟩ : Addr).add (l * k))) n c) := by
  subst hc
  by_cases q : m = l
  · subst q
    rw [if_pos rfl, Nat.beq_refl]; exact .sl ht hn
  · have : Nat.beq m l = false := by
      cases hb : Nat.beq m l with
      | false => rfl
      | true => exact absurd (Nat.eq_of_beq_eq_true hb) q
    rw [if_neg q, this, add_none, Nat.add_assoc]; exact .sl ht hn
theorem beq_iff' (m l : Nat) : m = l ↔ (bif Nat.beq m l then true else false) = true := by
  constructor
  · rintro rfl; rw [Nat.beq_refl]; rfl
  · intro h
    cases hb : Nat.beq m l with
    | false => rw [hb] at h; cases h
    | true => exact Nat.eq_of_beq_eq_true hb
theorem vr_slice' {ρ : Ren} {id off : Nat} {tg : Tgt} (ht : ρ id = some tg) (k m m' l n c : Nat) (hc : c = capR tg m') (hn : n ≤ c) (hl : m = l → l * k = 0) :
    VR ρ (.slice (some ⟨id, off + l * k, none⟩) n m') (.slice (some (if m = l then (⟨tg.blk, tg.base + off, none⟩ : Addr) else (⟨tg.blk, tg.base + off, none⟩ : Addr).add (l * k))) n c) := by
  subst hc
  by_cases q : m = l
  · rw [if_pos q, hl q]; exact .sl ht hn
  · rw [if_neg q, add_none, Nat.add_assoc]; exact .sl ht hn
theorem big_sub {t : Tgt} {cap l : Nat} (h : ¬ cap < big) : capR t cap - l = capR t (cap + l) := by
  rw [capR_big h, capR_big (by omega)]; omega
theorem vr_sle {ρ : Ren} {id off : Nat} {tg : Tgt} (ht : ρ id = some tg) (k cap l n c : Nat) (hcb : ¬ cap < big) (hl : l ≤ capR tg cap) (hn : n = 0) (hc : c = capR tg cap - l) :
    VR ρ (.slice (some ⟨id, off + l * k, some (l * k)⟩) 0 (cap + l)) (.slice (some (if capR tg cap = l then (⟨tg.blk, tg.base + off, none⟩ : Addr) else (⟨tg.blk, tg.base + off, none⟩ : Addr).add (l * k))) n c) := by
  subst hn
  have hb := big_sub (l := l) (t := tg) hcb
  subst hc
  rw [hb]
  have := VR.sle (o := off + l * k) (d := l * k) (c := cap + l) ht
  by_cases q : capR tg cap = l
  · rw [if_pos q]
    rw [if_pos (by omega)] at this
    rwa [Nat.add_sub_cancel] at this
  · rw [if_neg q, add_none]
    rw [if_neg (by omega)] at this
    rwa [Nat.add_assoc]
theorem slice_ok {P : Program} {w : World} {ρ : Ren} {st st' : St} {v u x : Value} {t : TypeId} {l : Nat} {hi mx : Option Nat} {vlo vhi vmx : Option Value} (hv : VR ρ v u)
    (hlo : OI vlo l 0) (hhi : OM vhi hi) (hmx : OM vmx mx) (e : aSlice P t v l hi mx st = some (x, st')) :
    SOk P ρ w (Instr.sliceAt t u vlo vhi vmx) x st st' := by
  unfold aSlice at e
  cases hd : P.underlying t with
  | none => rw [hd] at e; cases e
  | some d =>
    rw [hd] at e
    cases d <;> try (simp at e; done)
    · rename_i el
      simp only at e
      cases hk : tySize P el with
      | none => rw [hk] at e; simp at e
      | some k =>
        rw [hk] at e
        cases hv <;> try (simp at e; done)
        · rename_i n c
          simp only at e
          cases hc : (Nat.beq n 0 && Nat.beq c 0 && Nat.beq l 0 && Nat.beq (hi.getD 0) 0 && mx.isNone) with
          | false => rw [hc] at e; cases e
          | true =>
            rw [hc] at e
            cases e
            simp only [Bool.and_eq_true] at hc
            obtain ⟨⟨⟨⟨c1, c2⟩, c3⟩, c4⟩, c5⟩ := hc
            have e1 := Nat.eq_of_beq_eq_true c1
            have e2 := Nat.eq_of_beq_eq_true c2
            have e3 := Nat.eq_of_beq_eq_true c3
            have e4 := Nat.eq_of_beq_eq_true c4
            subst e1 e2 e3
            rcases hmx with ⟨rfl, rfl⟩ | ⟨_, _, _, rfl⟩
            · refine ⟨rfl, .slice none 0 0, ?_, (.nils 0 0)⟩
              have hb : (Instr.sliceBounds true 0 0 vlo vhi none).run P w = .ok (0, 0, 0) w := by
                rcases hhi with ⟨rfl, rfl⟩ | ⟨k2, i, rfl, rfl⟩
                · exact bounds_nn hlo (Nat.le_refl _)
                · simp only [Option.getD_some] at e4; subst e4; exact bounds_sn hlo k2 0 (Nat.le_refl _) (Nat.le_refl _)
              simp only [Instr.sliceAt, Sem.run_bind, run_underlying hd, Result.andThen_ok, Instr.slice, hb, run_size hk, Sem.run_pure]
              simp
            · simp at c5
        · rename_i id off len cap tg ht hn
          simp only at e
          unfold aSliceS at e
          rcases hhi with ⟨rfl, rfl⟩ | ⟨k2, i, rfl, rfl⟩
          · rcases hmx with ⟨rfl, rfl⟩ | ⟨k3, m, rfl, rfl⟩
            · simp only at e
              cases hc : Nat.blt cap big with
              | true =>
                have hcb := blt_lt hc
                rw [hc] at e
                simp only [cond_true] at e
                cases hc2 : Nat.ble l len with
                | false => rw [hc2] at e; cases e
                | true =>
                  rw [hc2] at e
                  cases e
                  have hl := Nat.le_of_ble_eq_true hc2
                  rw [capR_small hcb] at hn ⊢
                  exact ⟨rfl, _, (sliceRun hd hk _ len cap l len cap _ _ _ (bounds_nn hlo hl)), (vr_slice ht k cap (cap - l) l (len - l) (cap - l) (capR_small (by omega)).symm (by omega) (beq_iff' _ _))⟩
              | false =>
                have hcb : ¬ cap < big := by intro q; have := Nat.ble_eq_true_of_le q; rw [show Nat.ble (cap + 1) big = Nat.blt cap big from rfl, hc] at this; cases this
                rw [hc] at e
                simp only [cond_false] at e
                cases hc2 : (Nat.ble l len && (Nat.blt l len || Nat.beq l 0)) with
                | false =>
                  rw [hc2] at e
                  simp only [cond_false] at e
                  cases hc3 : Nat.beq l len with
                  | false => rw [hc3] at e; cases e
                  | true =>
                    rw [hc3] at e
                    cases e
                    have hl := Nat.eq_of_beq_eq_true hc3
                    exact ⟨rfl, _, (sliceRun hd hk _ len (capR tg cap) l len (capR tg cap) _ _ _ (bounds_nn hlo (by omega))), vr_sle ht k cap l (len - l) _ hcb (by omega) (by omega) rfl⟩
                | true =>
                  rw [hc2] at e
                  cases e
                  simp only [Bool.and_eq_true, Bool.or_eq_true] at hc2
                  obtain ⟨q1, q2⟩ := hc2
                  have hl := Nat.le_of_ble_eq_true q1
                  refine ⟨rfl, _, (sliceRun hd hk _ len (capR tg cap) l len (capR tg cap) _ _ _ (bounds_nn hlo hl)), (vr_slice' ht k (capR tg cap) (cap + l) l (len - l) (capR tg cap - l) (big_sub hcb) (by omega) ?_)⟩
                  intro q
                  rcases q2 with q2 | q2
                  · have := blt_lt q2; omega
                  · rw [Nat.eq_of_beq_eq_true q2, Nat.zero_mul]
            · simp at e
          · rcases hmx with ⟨rfl, rfl⟩ | ⟨k3, m, rfl, rfl⟩
            · simp only at e
              cases hc : Nat.blt cap big with
              | true =>
                have hcb := blt_lt hc
                rw [hc] at e
                simp only [cond_true] at e
                cases hc2 : (Nat.ble l i && Nat.ble i cap) with
                | false => rw [hc2] at e; cases e
                | true =>
                  rw [hc2] at e
                  cases e
                  simp only [Bool.and_eq_true] at hc2
                  have hl := Nat.le_of_ble_eq_true hc2.1
                  have hl2 := Nat.le_of_ble_eq_true hc2.2
                  rw [capR_small hcb] at hn ⊢
                  exact ⟨rfl, _, (sliceRun hd hk _ len cap l i cap _ _ _ (bounds_sn hlo k2 i hl hl2)), (vr_slice ht k cap (cap - l) l (i - l) (cap - l) (capR_small (by omega)).symm (by omega) (beq_iff' _ _))⟩
              | false =>
                have hcb : ¬ cap < big := by intro q; have := Nat.ble_eq_true_of_le q; rw [show Nat.ble (cap + 1) big = Nat.blt cap big from rfl, hc] at this; cases this
                rw [hc] at e
                simp only [cond_false] at e
                cases hc2 : (Nat.ble l i && Nat.ble i len && (Nat.blt l len || Nat.beq l 0)) with
                | false =>
                  rw [hc2] at e
                  simp only [cond_false] at e
                  cases hc3 : (Nat.beq l len && Nat.beq i len) with
                  | false => rw [hc3] at e; cases e
                  | true =>
                    rw [hc3] at e
                    cases e
                    rw [Bool.and_eq_true] at hc3
                    have hl := Nat.eq_of_beq_eq_true hc3.1
                    have hi := Nat.eq_of_beq_eq_true hc3.2
                    exact ⟨rfl, _, (sliceRun hd hk _ len (capR tg cap) l i (capR tg cap) _ _ _ (bounds_sn hlo k2 i (by omega) (by omega))), vr_sle ht k cap l (i - l) _ hcb (by omega) (by omega) rfl⟩
                | true =>
                  rw [hc2] at e
                  cases e
                  simp only [Bool.and_eq_true, Bool.or_eq_true] at hc2
                  obtain ⟨⟨q0, q1⟩, q2⟩ := hc2
                  have hl := Nat.le_of_ble_eq_true q0
                  have hl2 := Nat.le_of_ble_eq_true q1
                  refine ⟨rfl, _, (sliceRun hd hk _ len (capR tg cap) l i (capR tg cap) _ _ _ (bounds_sn hlo k2 i hl (by omega))), (vr_slice' ht k (capR tg cap) (cap + l) l (i - l) (capR tg cap - l) (big_sub hcb) (by omega) ?_)⟩
                  intro q
                  rcases q2 with q2 | q2
                  · have := blt_lt q2; omega
                  · rw [Nat.eq_of_beq_eq_true q2, Nat.zero_mul]
            · simp only at e
              cases hc2 : (Nat.ble l i && Nat.ble i m && Nat.blt m big && (bif Nat.blt cap big then Nat.ble m cap else Nat.ble m len)) with
              | false => rw [hc2] at e; cases e
              | true =>
                rw [hc2] at e
                cases e
                simp only [Bool.and_eq_true] at hc2
                obtain ⟨⟨⟨q0, q1⟩, q2⟩, q3⟩ := hc2
                have hl := Nat.le_of_ble_eq_true q0
                have hl2 := Nat.le_of_ble_eq_true q1
                have hm := blt_lt q2
                have hmc : m ≤ capR tg cap := by
                  cases hc : Nat.blt cap big with
                  | true => rw [hc] at q3; rw [capR_small (blt_lt hc)]; exact Nat.le_of_ble_eq_true q3
                  | false => rw [hc] at q3; have := Nat.le_of_ble_eq_true q3; omega
                exact ⟨rfl, _, (sliceRun hd hk _ len (capR tg cap) l i m _ _ _ (bounds_ss hlo k2 k3 i m hl hl2 hmc)), (vr_slice ht k m (m - l) l (i - l) (m - l) (capR_small (by omega)).symm (by omega) (beq_iff' _ _))⟩
    · rename_i n el
      simp only at e
      cases hk : tySize P el with
      | none => rw [hk] at e; simp at e
      | some k =>
        rw [hk] at e
        cases hv <;> try (simp at e; done)
        rename_i id off tg ht
        simp only at e
        unfold aSliceA at e
        rcases hhi with ⟨rfl, rfl⟩ | ⟨k2, i, rfl, rfl⟩
        · rcases hmx with ⟨rfl, rfl⟩ | ⟨k3, m, rfl, rfl⟩
          · simp only at e
            cases hc2 : (Nat.ble l n && Nat.blt n big) with
            | false => rw [hc2] at e; cases e
            | true =>
              rw [hc2] at e
              cases e
              simp only [Bool.and_eq_true] at hc2
              have hl := Nat.le_of_ble_eq_true hc2.1
              have hn := blt_lt hc2.2
              exact ⟨rfl, _, (sliceRunA hd hk _ l n n _ _ _ (bounds_nn hlo hl)), (vr_slice ht k n (n - l) l (n - l) (n - l) (capR_small (by omega)).symm (by omega) (beq_iff' _ _))⟩
          · simp at e
        · rcases hmx with ⟨rfl, rfl⟩ | ⟨k3, m, rfl, rfl⟩
          · simp only at e
            cases hc2 : (Nat.ble l i && Nat.ble i n && Nat.blt n big) with
            | false => rw [hc2] at e; cases e
            | true =>
              rw [hc2] at e
              cases e
              simp only [Bool.and_eq_true] at hc2
              have hl := Nat.le_of_ble_eq_true hc2.1.1
              have hl2 := Nat.le_of_ble_eq_true hc2.1.2
              have hn := blt_lt hc2.2
              exact ⟨rfl, _, (sliceRunA hd hk _ l i n _ _ _ (bounds_sn hlo k2 i hl hl2)), (vr_slice ht k n (n - l) l (i - l) (n - l) (capR_small (by omega)).symm (by omega) (beq_iff' _ _))⟩
          · simp at e

def AR2 (ρ : Ren) (xs ys : Array Value) : Prop := xs.size = ys.size ∧ ∀ (i : Nat) (x y : Value), xs[i]? = some x → ys[i]? = some y → VR ρ x y
theorem AR2.set {ρ : Ren} {xs ys : Array Value} (h : AR2 ρ xs ys) (i : Nat) {x y : Value} (hv : VR ρ x y) : AR2 ρ (xs.setIfInBounds i x) (ys.setIfInBounds i y) := by
  refine ⟨by simp [h.1], fun j a b ha hb => ?_⟩
  rw [Array.getElem?_setIfInBounds] at ha hb
  by_cases e : i = j
  · subst e
    rw [if_pos rfl] at ha hb
    split at ha
    · rename_i q
      rw [if_pos (by have := h.1; omega)] at hb
      cases ha; cases hb; exact hv
    · cases ha
  · rw [if_neg e] at ha hb; exact h.2 j a b ha hb
theorem foldl_rel {ρ : Ren} (off : Nat) : ∀ (l u : List Value) (k : Nat) (xs ys : Array Value), LR ρ l u → AR2 ρ xs ys →
    AR2 ρ ((l.zipIdx k).foldl (fun cs (p : Value × Nat) => cs.setIfInBounds (off + p.2) p.1) xs) ((u.zipIdx k).foldl (fun cs (p : Value × Nat) => cs.setIfInBounds (off + p.2) p.1) ys) := by
  intro l
  induction l with
  | nil =>
    intro u k xs ys hl hx
    have : u = [] := List.eq_nil_of_length_eq_zero hl.1.symm
    subst this; exact hx
  | cons v l ih =>
    intro u k xs ys hl hx
    cases u with
    | nil => exact absurd hl.1 (by simp)
    | cons c u =>
      rw [List.zipIdx_cons, List.zipIdx_cons, List.foldl_cons, List.foldl_cons]
      refine ih u (k + 1) _ _ ⟨by simpa using hl.1, fun i x y a b => hl.2 (i + 1) x y (by simpa using a) (by simpa using b)⟩ (hx.set _ (hl.2 0 v c rfl rfl))
theorem cells_toList (v : Value) : v.cells.toList = cellsL v := by
  cases v <;> rfl
/-- parts of a literal -/
def PR (ρ : Ren) (l u : List (Nat × Value)) : Prop := l.length = u.length ∧ ∀ (i : Nat) (x y : Nat × Value), l[i]? = some x → u[i]? = some y → x.1 = y.1 ∧ VR ρ x.2 y.2
theorem fill_rel {ρ : Ren} (place : Nat → Option (Nat × Nat)) : ∀ (l u : List (Nat × Value)) (xs ys zs : Array Value), PR ρ l u → AR2 ρ xs ys → Instr.fill place xs l = some zs → ∃ ws, Instr.fill place ys u = some ws ∧ AR2 ρ zs ws := by
  intro l
  induction l with
  | nil =>
    intro u xs ys zs hl hx e
    have : u = [] := List.eq_nil_of_length_eq_zero hl.1.symm
    subst this
    simp only [Instr.fill, Option.some.injEq] at e ⊢
    subst e
    exact ⟨_, rfl, hx⟩
  | cons p l ih =>
    intro u xs ys zs hl hx e
    cases u with
    | nil => exact absurd hl.1 (by simp)
    | cons q u =>
      obtain ⟨i, v⟩ := p
      obtain ⟨j, c⟩ := q
      obtain ⟨h1, h2⟩ := hl.2 0 (i, v) (j, c) rfl rfl
      simp only at h1 h2
      subst h1
      have hcells := h2.cells
      have hsz : v.cells.size = c.cells.size := by
        have := hcells.1
        rw [← cells_toList] at this; simpa using this
      unfold Instr.fill at e ⊢
      cases hp : place i with
      | none => rw [hp] at e; cases e
      | some os =>
        obtain ⟨off, size⟩ := os
        rw [hp] at e
        simp only at e ⊢
        rw [← hsz, ← hx.1]
        by_cases q : (v.cells.size ≠ size || decide (off + v.cells.size > xs.size)) = true
        · rw [if_pos (by simpa using q)] at e; cases e
        · rw [if_neg (by simpa using q)] at e
          rw [if_neg (by simpa using q)]
          refine ih u _ _ zs ⟨by simpa using hl.1, fun k x y a b => hl.2 (k + 1) x y (by simpa using a) (by simpa using b)⟩ ?_ e
          have := foldl_rel off (cellsL v) c.cells.toList 0 xs ys hcells hx
          rw [← cells_toList] at this
          simpa only [← Array.foldl_toList, Array.toList_zipIdx] using this
theorem aPlaces_run {P : Program} {w : World} : ∀ (l : List Field) (pl : List (Nat × Nat)), l.foldr (fun f acc => match tySize P f.type, acc with | some k, some l => some ((f.offset, k) :: l) | _, _ => none) (some []) = some pl →
    (l.mapM fun f => do pure (f.offset, ← sizeOf f.type) : Sem (List (Nat × Nat))).run P w = .ok pl w := by
  intro l
  induction l with
  | nil => intro pl h; cases h; rfl
  | cons f l ih =>
    intro pl h
    rw [List.foldr_cons] at h
    cases hk : tySize P f.type with
    | none => rw [hk] at h; simp at h
    | some k =>
      rw [hk] at h
      cases ha : l.foldr (fun f acc => match tySize P f.type, acc with | some k, some l => some ((f.offset, k) :: l) | _, _ => none) (some []) with
      | none => rw [ha] at h; simp at h
      | some r =>
        rw [ha] at h
        simp only [Option.some.injEq] at h
        subst h
        rw [List.mapM_cons]
        simp only [Sem.run_bind, run_size hk, Result.andThen_ok, Sem.run_pure, ih r ha]
theorem AR2.refl {ρ : Ren} {z : Value} (h : grd 3 z = true) : AR2 ρ z.cells z.cells := by
  refine ⟨rfl, fun i x y hx hy => ?_⟩
  have := (VR.refl ρ 3 z h).cells
  rw [← cells_toList] at this
  exact this.2 i x y (by simpa using hx) (by simpa using hy)
theorem build_ok {P : Program} {w : World} {ρ : Ren} {st st' : St} {t : TypeId} {ps us : List (Nat × Value)} {x : Value} (hp : PR ρ ps us) (e : aBuild P t ps st = some (x, st')) :
    SOk P ρ w (Instr.build t us.toArray) x st st' := by
  unfold aBuild at e
  cases hi : P.info? t with
  | none => rw [hi] at e; cases e
  | some i =>
    rw [hi] at e
    simp only at e
    cases hz : i.zero with
    | none => rw [hz] at e; simp at e
    | some z =>
      cases hd : P.underlying t with
      | none => rw [hz, hd] at e; simp at e
      | some d =>
        rw [hz, hd] at e
        cases d <;> try (simp at e; done)
        · rename_i n el
          simp only at e
          cases hk : tySize P el with
          | none => rw [hk] at e; cases e
          | some k =>
            rw [hk] at e
            simp only at e
            cases hg : grd 3 z with
            | false => rw [hg] at e; cases e
            | true =>
              rw [hg] at e
              simp only [cond_true] at e
              cases hf : Instr.fill (fun j => some (j * k, k)) z.cells ps with
              | none => rw [hf] at e; cases e
              | some cs =>
                rw [hf] at e
                cases e
                obtain ⟨ws, h1, h2⟩ := fill_rel (ρ := ρ) _ ps us z.cells z.cells cs hp (AR2.refl hg) hf
                refine ⟨rfl, .agg ws, ?_, (.agg h2.1 h2.2)⟩
                simp only [Instr.build, Sem.run_bind, run_zeroV hi hz, Result.andThen_ok, run_underlying hd, run_size hk, h1, Sem.run_pure]
        · rename_i fs
          simp only at e
          cases hk : aPlaces P fs with
          | none => rw [hk] at e; cases e
          | some pl =>
            rw [hk] at e
            simp only at e
            cases hg : grd 3 z with
            | false => rw [hg] at e; cases e
            | true =>
              rw [hg] at e
              simp only [cond_true] at e
              cases hf : Instr.fill (fun j => pl[j]?) z.cells ps with
              | none => rw [hf] at e; cases e
              | some cs =>
                rw [hf] at e
                cases e
                obtain ⟨ws, h1, h2⟩ := fill_rel (ρ := ρ) _ ps us z.cells z.cells cs hp (AR2.refl hg) hf
                refine ⟨rfl, .agg ws, ?_, (.agg h2.1 h2.2)⟩
                have hm : (fs.mapM fun f => do pure (f.offset, ← sizeOf f.type) : Sem (Array (Nat × Nat))).run P w = .ok pl.toArray w := by
                  rw [Array.mapM_eq_mapM_toList, Sem.run_map, aPlaces_run fs.toList pl hk]; rfl
                simp only [Instr.build, Sem.run_bind, run_zeroV hi hz, Result.andThen_ok, run_underlying hd, hm, List.getElem?_toArray, h1, Sem.run_pure]
theorem cyc_refl {ρ : Ren} {z : Value} (h : grd 3 z = true) (n : Nat) : AR2 ρ ((Array.range n).map (z.cells[· % z.cells.size]!)) ((Array.range n).map (z.cells[· % z.cells.size]!)) := by
  refine ⟨rfl, fun i x y hx hy => ?_⟩
  rw [hx] at hy; cases hy
  rw [Array.getElem?_map] at hx
  cases hr : (Array.range n)[i]? with
  | none => rw [hr] at hx; cases hx
  | some j =>
    rw [hr] at hx
    simp only [Option.map_some, Option.some.injEq] at hx
    subst hx
    rw [getElem!_def]
    cases hc : z.cells[j % z.cells.size]? with
    | none => exact .bool _
    | some c => exact (AR2.refl (ρ := ρ) h).2 _ c c hc hc
theorem AR2.LR {ρ : Ren} {xs ys : Array Value} (h : AR2 ρ xs ys) : LR ρ xs.toList ys.toList := ⟨by simpa using h.1, fun i x y a b => h.2 i x y (by simpa using a) (by simpa using b)⟩
theorem buildSlice_ok {P : Program} {w0 : Bs} {w : World} {ρ : Ren} {st st' : St} {t : TypeId} {n : Nat} {ps us : List (Nat × Value)} {x : Value} (h : Rel w0 ρ st w) (hp : PR ρ ps us) (e : aBuildSlice P t n ps st = some (x, st')) :
    VOk P w0 ρ st w (Instr.buildSlice t n us.toArray) x st' := by
  unfold aBuildSlice at e
  cases hd : P.underlying t with
  | none => rw [hd] at e; cases e
  | some d =>
    rw [hd] at e
    cases d <;> try (simp at e; done)
    rename_i el
    simp only at e
    cases hi : P.info? el with
    | none => rw [hi] at e; cases e
    | some i =>
      rw [hi] at e
      simp only at e
      cases hz : i.zero with
      | none => rw [hz] at e; cases e
      | some z =>
        rw [hz] at e
        simp only at e
        cases hg : (Nat.blt (n * i.size) 16777216 && Nat.blt n 16777216 && grd 3 z) with
        | false => rw [hg] at e; cases e
        | true =>
          rw [hg] at e
          simp only [cond_true] at e
          simp only [Bool.and_eq_true] at hg
          cases hf : Instr.fill (fun j => some (j * i.size, i.size)) ((Array.range (n * i.size)).map (z.cells[· % z.cells.size]!)) ps with
          | none => rw [hf] at e; cases e
          | some cs =>
            rw [hf] at e
            cases e
            obtain ⟨ws, h1, h2⟩ := fill_rel (ρ := ρ) _ ps us _ _ cs hp (cyc_refl hg.2 _) hf
            obtain ⟨ρ', q1, q2, q3, q4⟩ := h.new (putCells cs.toList .leaf 0) cs.size el i.size true ws 0 (fun j hj => by
              obtain ⟨a, b, r1, r2, r3⟩ := h2.LR.at0 j (by simpa using hj)
              exact ⟨a, b, r1, r2, by simpa using r3⟩) (fun _ => h2.1) (fun q => by cases q) (0, 0) (thaw00 _)
            have hsz : tySize P el = some i.size := by simp [tySize, hi]
            refine ⟨ρ', .slice (some ⟨w.heap.size, 0, none⟩) n n, _, q1, ?_, ?_, q3, q4⟩
            · have hle : ¬ (2 ^ 24 < n * i.size) := by have := blt_lt hg.1.1; omega
              by_cases q : n * i.size = 0
              · have h1' : Instr.fill (fun j => some (j * i.size, i.size)) #[] us = some ws := by
                  rw [q, Array.range_zero', Array.map_empty] at h1; exact h1
                simp only [Instr.buildSlice, Sem.run_bind, run_underlying hd, Result.andThen_ok, run_size hsz, gt_iff_lt, if_false, q, if_true, Sem.run_pure, Nat.not_lt_zero, Array.range_zero', Array.map_empty, h1', newRow, run_newObj]
                rfl
              · simp only [Instr.buildSlice, Sem.run_bind, run_underlying hd, Result.andThen_ok, run_size hsz, gt_iff_lt, hle, if_false, q, Sem.run_pure, run_zeroV hi hz, h1, newRow, run_newObj]
                rfl
            · have hb : n < big := by have := blt_lt hg.1.2; unfold big; omega
              have := VR.sl (ρ := ρ') (b := st.next) (o := 0) (n := n) (c := n) q2 (by rw [capR_small hb]; exact Nat.le_refl _)
              rwa [capR_small hb] at this
theorem makeSlice_ok {P : Program} {w0 : Bs} {w : World} {ρ : Ren} {st st' : St} {t : TypeId} {n c : Nat} {kn kc : IntKind} {x : Value} (h : Rel w0 ρ st w) (e : aMakeSlice P t n c st = some (x, st')) :
    VOk P w0 ρ st w (Instr.makeSlice t (.int kn (n : Int)) (.int kc (c : Int))) x st' := by
  unfold aMakeSlice at e
  cases hd : P.underlying t with
  | none => rw [hd] at e; cases e
  | some d =>
    rw [hd] at e
    cases d <;> try (simp at e; done)
    rename_i el
    simp only at e
    cases hi : P.info? el with
    | none => rw [hi] at e; cases e
    | some i =>
      rw [hi] at e
      simp only at e
      cases hz : i.zero with
      | none => rw [hz] at e; cases e
      | some z =>
        rw [hz] at e
        simp only at e
        cases hg : (Nat.blt (c * i.bytes) 1099511627776 && Nat.ble n c && Nat.blt c 1099511627776 && grd 3 z) with
        | false => rw [hg] at e; cases e
        | true =>
          rw [hg] at e
          simp only [cond_true, Option.some.injEq, Prod.mk.injEq] at e
          obtain ⟨rfl, rfl⟩ := e
          simp only [Bool.and_eq_true] at hg
          obtain ⟨⟨⟨g1, g2⟩, g3⟩, g4⟩ := hg
          have g1 := blt_lt g1
          have g2 := Nat.le_of_ble_eq_true g2
          have g3 := blt_lt g3
          have hA := cyc_refl (ρ := ρ) g4 (c * i.size)
          obtain ⟨ρ', q1, q2, q3, q4⟩ := h.new (putCells ((Array.range (c * i.size)).map (z.cells[· % z.cells.size]!)).toList .leaf 0) (c * i.size) el i.size true ((Array.range (c * i.size)).map (z.cells[· % z.cells.size]!)) 0 (fun j hj => by
            obtain ⟨a, b, r1, r2, r3⟩ := hA.LR.at0 j (by simpa using hj)
            exact ⟨a, b, r1, r2, by rw [Array.getElem?_toList] at r3; exact r3⟩) (fun _ => by simp) (fun q => by cases q) (0, 0) (thaw00 _)
          refine ⟨ρ', .slice (some ⟨w.heap.size, 0, none⟩) n c, _, q1, ?_, ?_, q3, q4⟩
          · have := run_make (P := P) w t el i z hd hi hz kn kc n c (by omega) (by omega) (by
              have : (i.bytes : Int) * (c : Int) = ((c * i.bytes : Nat) : Int) := by rw [Nat.mul_comm]; simp
              rw [this]; omega) (by omega)
            simp only [Int.toNat_natCast] at this
            exact this
          · have hb : c < big := by unfold big; omega
            have := VR.sl (ρ := ρ') (b := st.next) (o := 0) (n := n) (c := c) q2 (by rw [capR_small hb]; exact g2)
            rwa [capR_small hb] at this

theorem src_ok {P : Program} {w0 : Bs} {w : World} {ρ : Ren} {st : St} (h : Rel w0 ρ st w) {k n : Nat} {x u : Value} {new : List Value} (hx : VR ρ x u) (e : srcCells st k n x = some new) :
    ∃ us : List Value, LR ρ new us ∧ ∀ w', w'.heap = w.heap → (Builtin.firstCells k n u).run P w' = .ok us.toArray w' := by
  cases hx <;> try (simp [srcCells] at e; done)
  · rename_i s
    simp only [srcCells, Option.some.injEq] at e
    subst e
    refine ⟨_, ⟨rfl, fun i x y hx hy => by rw [hx] at hy; cases hy; simp only [List.getElem?_map] at hx; cases hq : ((s.extract 0 n).data.toList)[i]? with | none => rw [hq] at hx; cases hx | some c => rw [hq] at hx; cases hx; exact .int _ _⟩, fun w' _ => ?_⟩
    simp only [Builtin.firstCells, Sem.run_pure]
    congr 1
    apply Array.ext'
    simp
  · rename_i a b
    simp only [srcCells, Option.some.injEq] at e
    subst e
    exact ⟨[], ⟨rfl, fun i x y hx hy => by simp at hx⟩, fun w' _ => by simp [Builtin.firstCells]⟩
  · rename_i id off len cap tg ht hn
    simp only [srcCells] at e
    cases hb : st.heap.get id with
    | none => rw [hb] at e; cases e
    | some b =>
      rw [hb] at e
      simp only at e
      cases hc : Nat.ble (off + n * k) b.n with
      | false => rw [hc] at e; cases e
      | true =>
        rw [hc] at e
        simp only [cond_true] at e
        obtain ⟨t', us, q1, q2, q3, q4⟩ := h.get hb (Nat.le_of_ble_eq_true hc) e ht
        rw [ht] at q1; cases q1
        refine ⟨us, q2, fun w' hw => ?_⟩
        simp only [Builtin.firstCells]
        rw [← q3]
        exact run_loadL fun i v hv => by
          have := q4 i v hv
          simpa only [World.cell?, hw] using this
  · simp only [srcCells] at e
    cases hn : Nat.beq n 0 with
    | false => rw [hn] at e; cases e
    | true =>
      rw [hn] at e
      cases e
      have := Nat.eq_of_beq_eq_true hn
      subst this
      exact ⟨[], ⟨rfl, fun i x y hx hy => by simp at hx⟩, fun w' _ => by rw [Builtin.firstCells, Nat.zero_mul]; exact run_loadL (u := []) fun i v hv => by simp at hv⟩
theorem len_ok {P : Program} {w : World} {ρ : Ren} {x u : Value} {n : Nat} (hx : VR ρ x u) (e : srcLen x = some n) : (Builtin.lenOf u).run P w = .ok n w := by
  cases hx <;> try (simp [srcLen] at e; done)
  all_goals
    simp only [srcLen, Option.some.injEq] at e
    subst e
    first | rfl | simp [Builtin.lenOf]
/-- the program's append, its source read -/
structure App (P : Program) (w : World) (ts : Array TypeId) (e : TypeId) (i : TypeInfo) (z : Value) (n : Nat) (u : Value) (us : List Value) : Prop where
  s0 : ∃ sT, ts[0]? = some sT ∧ P.underlying sT = some (.slice e)
  s1 : ∃ xT d, ts[1]? = some xT ∧ P.underlying xT = some d ∧ ∀ k, d ≠ .int k
  info : P.info? e = some i
  zero : i.zero = some z
  len : ∀ w', (Builtin.lenOf u).run P w' = .ok n w'
  src : ∀ w', w'.heap = w.heap → (Builtin.firstCells i.size n u).run P w' = .ok us.toArray w'
theorem App.room {P : Program} {w w' : World} {ts : Array TypeId} {e : TypeId} {i : TypeInfo} {z : Value} {n : Nat} {u : Value} {us : List Value} (h : App P w ts e i z n u us) (ty : TypeId) (a : Addr) (len cap : Nat)
    (hroom : len + n ≤ cap) (hs : (storeCells (a.add (len * i.size)) us).run P w = .ok () w') :
    (Builtin.append_ ts ty #[.slice (some a) len cap, u]).run P w = .ok (.slice (some a) (len + n) cap) w' := by
  obtain ⟨sT, h1, h2⟩ := h.s0
  obtain ⟨xT, d, k1, k2, k3⟩ := h.s1
  have hf : (match d with | TypeDesc.int k => true | x => false) = false := by cases d <;> first | rfl | exact absurd rfl (k3 _)
  have hsz : tySize P e = some i.size := by simp [tySize, h.info]
  unfold Builtin.append_
  simp only [h1, k1]
  simp only [List.getElem?_toArray, List.getElem?_cons_zero, List.getElem?_cons_succ]
  simp only [Sem.run_bind, run_underlying h2, run_underlying k2, Result.andThen_ok, run_size hsz, Sem.run_pure, Bool.false_eq_true, if_false, h.len, Bool.not_false, if_true, hroom, h.src w rfl, hs, Sem.run_pure]
theorem App.none0 {P : Program} {w : World} {ts : Array TypeId} {e : TypeId} {i : TypeInfo} {z : Value} {n : Nat} {u : Value} {us : List Value} (h : App P w ts e i z n u us) (ty : TypeId) (hn : n = 0) :
    (Builtin.append_ ts ty #[.slice none 0 0, u]).run P w = .ok (.slice none 0 0) w := by
  obtain ⟨sT, h1, h2⟩ := h.s0
  obtain ⟨xT, d, k1, k2, k3⟩ := h.s1
  have hf : (match d with | TypeDesc.int k => true | x => false) = false := by cases d <;> first | rfl | exact absurd rfl (k3 _)
  have hsz : tySize P e = some i.size := by simp [tySize, h.info]
  subst hn
  unfold Builtin.append_
  simp only [h1, k1]
  simp only [List.getElem?_toArray, List.getElem?_cons_zero, List.getElem?_cons_succ]
  simp only [Sem.run_bind, run_underlying h2, run_underlying k2, Result.andThen_ok, run_size hsz, Sem.run_pure, Bool.false_eq_true, if_false, h.len, Bool.not_false, if_true, Nat.add_zero, Nat.le_refl, h.src w rfl, Sem.run_pure]
theorem App.grow {P : Program} {w : World} {ts : Array TypeId} {e : TypeId} {i : TypeInfo} {z : Value} {n : Nat} {u : Value} {us : List Value} (h : App P w ts e i z n u us) (ty : TypeId) (base : Option Addr) (len cap : Nat) (olds : List Value)
    (hold : ∀ w', w'.heap = w.heap → (Builtin.firstCells i.size len (.slice base len cap)).run P w' = .ok olds.toArray w')
    (hno : cap < len + n) (hb : (len + n) * i.bytes < 1099511627776) (hl : len + n < 1099511627776) :
    (Builtin.append_ ts ty #[.slice base len cap, u]).run P w = .ok (.slice (some ⟨w.heap.size, 0, none⟩) (len + n) (grownCap w (len + n) cap e))
      (w.drew.alloc (.cells (olds.toArray ++ us.toArray ++ Builtin.zeroCells z.cells (grownCap w (len + n) cap e - (len + n))) e)) := by
  obtain ⟨sT, h1, h2⟩ := h.s0
  obtain ⟨xT, d, k1, k2, k3⟩ := h.s1
  have hf : (match d with | TypeDesc.int k => true | x => false) = false := by cases d <;> first | rfl | exact absurd rfl (k3 _)
  have hsz : tySize P e = some i.size := by simp [tySize, h.info]
  have hti : ∀ w', (typeInfo e).run P w' = .ok i w' := fun w' => by simp [typeInfo, h.info]
  have hn : ¬ (len + n ≤ cap) := by omega
  have h63 : ¬ (((len + n : Nat) : Int) > IntKind.i64.max ∧ ((false : Bool) = true ∨ i.bytes = 0)) := by
    rintro ⟨q, _⟩
    have : (IntKind.i64.max : Int) = 9223372036854775807 := by decide
    omega
  have h48 : ¬ (Builtin.nextslicecap (len + n) cap * i.bytes > 2 ^ 48) := by
    have := growslice_fits hno (bytes := i.bytes) (by omega)
    omega
  have hroom : ∀ b w', (askRoom b).run P w' = .ok () w' := fun b w' => by unfold askRoom; split <;> rfl
  unfold Builtin.append_
  simp only [h1, k1]
  simp only [List.getElem?_toArray, List.getElem?_cons_zero, List.getElem?_cons_succ]
  simp only [Sem.run_bind, run_underlying h2, run_underlying k2, Result.andThen_ok, run_size hsz, Sem.run_pure, Bool.false_eq_true, if_false, h.len, Bool.not_false, if_true, hn, hti]
  have h63' : ¬ ((9223372036854775807 : Int) < (len : Int) + (n : Int) ∧ i.bytes = 0) := by rintro ⟨q, _⟩; omega
  have ho := hold w.drew rfl
  have hs := h.src w.drew rfl
  simp [Question.forced, grownCap, hroom, hti, run_zeroV h.info h.zero, newRow, h63', ho, hs, h48]
  rw [← Array.append_assoc]
  simp
theorem grown_ge {w : World} {need old : Nat} {e : TypeId} : need ≤ grownCap w need old e := by simp only [grownCap, Question.cut]; exact Nat.le_add_right _ _
theorem putPut {ρ : Ren} {old new os us : List Value} {N : Nat} (ho : LR ρ old os) (hn : LR ρ new us) (hlo : old.length = N) (rest : Array Value) :
    ∀ i, i < N + new.length → ∃ v c, (putCells new (putCells old .leaf 0) N).get i = some v ∧ VR ρ v c ∧ (os.toArray ++ us.toArray ++ rest)[i]? = some c := by
  intro i hi
  have hos : os.length = N := by rw [← ho.1, hlo]
  have hus : us.length = new.length := hn.1.symm
  rw [get_putCells, get_putCells]
  by_cases q : N ≤ i ∧ i < N + new.length
  · rw [if_pos q]
    have q1 : i - N < new.length := by omega
    have q2 : i - N < us.length := by omega
    refine ⟨new[i - N], us[i - N], List.getElem?_eq_getElem q1, hn.2 _ _ _ (List.getElem?_eq_getElem q1) (List.getElem?_eq_getElem q2), ?_⟩
    rw [Array.getElem?_append_left (by simp; omega), Array.getElem?_append_right (by simp; omega)]
    simp [hos, q2]
  · rw [if_neg q, if_pos (by omega)]
    have q1 : i < old.length := by omega
    have q2 : i < os.length := by omega
    refine ⟨old[i], os[i], by simp [q1], ho.2 _ _ _ (List.getElem?_eq_getElem q1) (List.getElem?_eq_getElem q2), ?_⟩
    rw [Array.getElem?_append_left (by simp; omega), Array.getElem?_append_left (by simp; omega)]
    simp [q2]
/-- a new block that an append makes -/
theorem newApp {P : Program} {w0 : Bs} {w : World} {ρ : Ren} {st : St} {ts : Array TypeId} {e : TypeId} {i : TypeInfo} {z : Value} {n : Nat} {u : Value} {us new : List Value} (h : Rel w0 ρ st w) (hA : App P w ts e i z n u us) (ty : TypeId)
    (hz : z.cells.size = i.size) (hnew : new.length = n * i.size) (hn : LR ρ new us) (base : Option Addr) (len cap : Nat) (old os : List Value) (ho : LR ρ old os) (hlo : old.length = len * i.size)
    (hold : ∀ w', w'.heap = w.heap → (Builtin.firstCells i.size len (.slice base len cap)).run P w' = .ok os.toArray w') (hno : cap < len + n) (hb : (len + n) * i.bytes < 1099511627776) (hl : len + n < 1099511627776) :
    VOk P w0 ρ st w (Builtin.append_ ts ty #[.slice base len cap, u]) (.slice (some ⟨st.next, 0, none⟩) (len + n) big) (newBlk st (putCells new (putCells old .leaf 0) (len * i.size)) ((len + n) * i.size) e i.size false) := by
  have hrun := hA.grow ty base len cap os hold hno hb hl
  have hge := grown_ge (w := w) (need := len + n) (old := cap) (e := e)
  generalize grownCap w (len + n) cap e = C at hrun hge
  have hsz : (os.toArray ++ us.toArray ++ Builtin.zeroCells z.cells (C - (len + n))).size = C * i.size := by
    rw [Array.size_append, Array.size_append, size_zeroCells, hz, List.size_toArray, List.size_toArray, ← ho.1, ← hn.1, hlo, hnew, ← Nat.add_mul, ← Nat.add_mul]
    congr 1; omega
  obtain ⟨ρ', q1, q2, q3, q4⟩ := h.drew.new (putCells new (putCells old .leaf 0) (len * i.size)) ((len + n) * i.size) e i.size false (os.toArray ++ us.toArray ++ Builtin.zeroCells z.cells (C - (len + n))) C
    (fun j hj => putPut ho hn hlo _ j (by rw [hnew, ← Nat.add_mul]; exact hj)) (fun q => by cases q) (fun _ => ⟨Nat.mul_le_mul_right _ hge, by rw [hsz]; exact Nat.le_refl _⟩) (0, 0) (thaw00 _)
  refine ⟨ρ', _, _, q1, hrun, ?_, q3, q4⟩
  have := VR.sl (ρ := ρ') (b := st.next) (o := 0) (n := len + n) (c := big) q2 (by rw [capR_big (by omega)]; show len + n ≤ C - (big - big); omega)
  rw [capR_big (by omega)] at this
  simpa using this

theorem blt_false {a b : Nat} (h : Nat.blt a b = false) : ¬ a < b := by
  intro q; have := Nat.ble_eq_true_of_le q; rw [show Nat.ble (a + 1) b = Nat.blt a b from rfl, h] at this; cases this
theorem ble_false {a b : Nat} (h : Nat.ble a b = false) : ¬ a ≤ b := by
  intro q; have := Nat.ble_eq_true_of_le q; rw [h] at this; cases this
theorem beq_false' {a b : Nat} (h : Nat.beq a b = false) : a ≠ b := by
  rintro rfl; rw [Nat.beq_refl] at h; cases h
theorem appIn_ok {P : Program} {w0 : Bs} {w : World} {ρ : Ren} {st st' : St} {ts : Array TypeId} {e : TypeId} {i : TypeInfo} {z : Value} {n : Nat} {u : Value} {us new : List Value} {id off len cap : Nat} {tg : Tgt} {x : Value} (ty : TypeId)
    (h : Rel w0 ρ st w) (hA : App P w ts e i z n u us) (hn : LR ρ new us) (ht : ρ id = some tg) (hroom : len + n ≤ capR tg cap) (ea : aAppIn i.size n new id off len cap st = some (x, st')) :
    VOk P w0 ρ st w (Builtin.append_ ts ty #[.slice (some ⟨tg.blk, tg.base + off, none⟩) len (capR tg cap), u]) x st' := by
  unfold aAppIn at ea
  cases hs : aStoreCells id (off + len * i.size) new st with
  | none => rw [hs] at ea; cases ea
  | some s2 =>
    rw [hs] at ea
    cases ea
    obtain ⟨t', w', q1, q2, q3, q4⟩ := h.set (P := P) hs hn ht
    rw [ht] at q1; cases q1
    refine ⟨ρ, _, w', Sub.refl _, hA.room ty _ len _ hroom (by rw [add_none, Nat.add_assoc]; exact q2), .sl ht hroom, q3, q4⟩
theorem appNew_ok {P : Program} {w0 : Bs} {w : World} {ρ : Ren} {st st' : St} {ts : Array TypeId} {e : TypeId} {i : TypeInfo} {z : Value} {n : Nat} {u : Value} {us new : List Value} {id off len cap : Nat} {b : Blk} {tg : Tgt} {x : Value} (ty : TypeId)
    (h : Rel w0 ρ st w) (hA : App P w ts e i z n u us) (hz : z.cells.size = i.size) (hnew : new.length = n * i.size) (hn : LR ρ new us) (hb : st.heap.get id = some b) (ht : ρ id = some tg) (hno : capR tg cap < len + n)
    (hby : (len + n) * i.bytes < 1099511627776) (hl : len + n < 1099511627776) (ea : aAppNew e i.size n new b off len st = some (x, st')) :
    VOk P w0 ρ st w (Builtin.append_ ts ty #[.slice (some ⟨tg.blk, tg.base + off, none⟩) len (capR tg cap), u]) x st' := by
  unfold aAppNew at ea
  cases hc : Nat.ble (off + len * i.size) b.n with
  | false => rw [hc] at ea; cases ea
  | true =>
    rw [hc] at ea
    simp only [cond_true] at ea
    cases hg : getCellsFrom b.cells (len * i.size) off with
    | none => rw [hg] at ea; cases ea
    | some old =>
      rw [hg] at ea
      cases ea
      obtain ⟨t', os, q1, q2, q3, q4⟩ := h.get hb (Nat.le_of_ble_eq_true hc) hg ht
      rw [ht] at q1; cases q1
      refine newApp h hA ty hz hnew hn _ len _ old os q2 (getCellsFrom_some _ _ _ _ hg).1 (fun w' hw => ?_) hno hby hl
      simp only [Builtin.firstCells]
      rw [← q3]
      exact run_loadL fun i v hv => by
        have := q4 i v hv
        simpa only [World.cell?, hw] using this
/-- the block goes over: the cells that the new number names are cells of the block at hand or of a copy -/
theorem appOver_ok {P : Program} {w0 : Bs} {w : World} {ρ : Ren} {st st' : St} {ts : Array TypeId} {e : TypeId} {i : TypeInfo} {z : Value} {n : Nat} {u : Value} {us new : List Value} {id off len oe : Nat} {b : Blk} {tg : Tgt} {x : Value} (ty : TypeId)
    (h : Rel w0 ρ st w) (hA : App P w ts e i z n u us) (hz : z.cells.size = i.size) (hnew : new.length = n * i.size) (hn : LR ρ new us) (hb : st.heap.get id = some b) (ht : ρ id = some tg) (hsz : b.sz = i.size) (hel : b.elem = e) (hex : b.exact = false)
    (hoff : off = oe * i.size) (hn0 : 0 < n)
    (hby : (len + n) * i.bytes < 1099511627776) (hl : len + n < 1099511627776) (ea : aAppOver e i.size n new id b off len st = some (x, st')) :
    VOk P w0 ρ st w (Builtin.append_ ts ty #[.slice (some ⟨tg.blk, tg.base + off, none⟩) len (tg.cap - oe), u]) x st' := by
  unfold aAppOver at ea
  cases hc : (Nat.beq (off + len * i.size) b.n && Nat.ble b.frz (off + len * i.size) && oneC new) with
  | false => rw [hc] at ea; cases ea
  | true =>
    rw [hc] at ea
    simp only [cond_true] at ea
    simp only [Bool.and_eq_true] at hc
    obtain ⟨⟨c1, c2⟩, c3⟩ := hc
    have c1 := Nat.eq_of_beq_eq_true c1
    have c2 := Nat.le_of_ble_eq_true c2
    -- the old cells
    obtain ⟨t1, cs, fr, q1, B⟩ := h.blk id b hb ht
    rw [ht] at q1; cases q1
    have hroomB := B.room hex
    have hwlo : w0.w.heap.size ≤ tg.blk := B.lo.resolve_right (by rintro ⟨_, q⟩; rw [hex] at q; cases q)
    rw [hsz] at hroomB
    -- both ways the new block's cells
    have key : ∃ T' : T Value, ∃ old os : List Value, getCellsFrom b.cells (len * i.size) off = some old ∧ LR ρ old os ∧ (∀ j v, os[j]? = some v → w.cell? ⟨tg.blk, tg.base + off + j, none⟩ = some v) ∧ os.length = len * i.size ∧
        x = .slice (some ⟨st.next, 0, none⟩) (len + n) big ∧ ∃ fz, (∀ j, fz ≤ j → b.frz ≤ off + j) ∧
        st' = { heap := (st.heap.put id none).set st.next ⟨putCells new T' (len * i.size), (len + n) * i.size, e, i.size, false, fz⟩, next := st.next + 1, minw := Nat.min id st.minw, obs := st.obs } ∧
        ∀ j, j < len * i.size → T'.get j = old[j]? := by
      have hgc : ∀ (k o : Nat), o + k ≤ b.n → ∃ l, getCellsFrom b.cells k o = some l := by
        intro k
        induction k with
        | zero => intro o _; exact ⟨[], rfl⟩
        | succ k ih =>
          intro o ho
          obtain ⟨v, c, r1, _⟩ := B.cell o (by omega)
          obtain ⟨l, hl⟩ := ih (o + 1) (by omega)
          exact ⟨v :: l, by rw [getCellsFrom_succ, r1, hl]⟩
      obtain ⟨old, hold⟩ := hgc (len * i.size) off (by omega)
      obtain ⟨t', os, r1, r2, r3, r4⟩ := h.get hb (by omega) hold ht
      rw [ht] at r1; cases r1
      obtain ⟨g1, g2⟩ := getCellsFrom_some _ _ _ _ hold
      cases ho : Nat.beq off 0 with
      | true =>
        rw [ho] at ea
        cases ea
        have h0 := Nat.eq_of_beq_eq_true ho
        rw [h0, Nat.zero_add] at c1
        refine ⟨b.cells, old, os, hold, r2, r4, r3, rfl, b.frz, fun j hj => by omega, by rw [c1], fun j hj => ?_⟩
        rw [← g2 j hj, h0, Nat.zero_add]
      | false =>
        rw [ho] at ea
        simp only [cond_false] at ea
        rw [hold] at ea
        cases ea
        refine ⟨putCells old .leaf 0, old, os, hold, r2, r4, r3, rfl, b.frz - off, fun j hj => by omega, rfl, fun j hj => ?_⟩
        rw [get_putCells, if_pos (by omega)]; rfl
    obtain ⟨T', old, os, k1, k2, k3, k4, rfl, fz, k5, rfl, k6⟩ := key
    have hlo : old.length = len * i.size := by rw [k2.1, k4]
    by_cases hroom : len + n ≤ tg.cap - oe
    · -- in place
      have hcap : oe + (len + n) ≤ tg.cap := by omega
      have hmul : off + (len + n) * i.size ≤ tg.cap * i.size := by rw [hoff, ← Nat.add_mul]; exact Nat.mul_le_mul_right _ hcap
      have hadd : (len + n) * i.size = len * i.size + n * i.size := Nat.add_mul _ _ _
      have husl : us.length = n * i.size := by rw [← hn.1, hnew]
      obtain ⟨w', cs', s1, s2, s3⟩ := run_storeCells P tg.blk (tg.base + off + len * i.size) fr.2 fr.1 us 0 w cs B.at_ (hn.oneC c3) (by omega) (fun j p1 p2 => by
        have := B.thaw (j - tg.base) (by omega) (by omega)
        rwa [show tg.base + (j - tg.base) = j by omega] at this)
      have hBR : BR w0 w' ρ ⟨putCells new T' (len * i.size), (len + n) * i.size, e, i.size, false, fz⟩ ⟨tg.blk, tg.base + off, tg.cap - oe⟩ cs' fr := by
        refine ⟨.inl hwlo, s2.at_, fun j hj => ?_, fun q => (by cases q), fun _ => ?_, fun j p1 p2 => ?_, fun _ => (B.ty hex).trans hel, fun q => (by cases q)⟩
        · simp only at hj ⊢
          rw [get_putCells]
          have s3j := s3 (tg.base + off + j)
          by_cases q : len * i.size ≤ j ∧ j < len * i.size + new.length
          · rw [if_pos q]
            rw [if_pos (by omega), show tg.base + off + j - (tg.base + off + len * i.size + 0) = j - len * i.size by omega] at s3j
            have q1 : j - len * i.size < new.length := by omega
            have q2 : j - len * i.size < us.length := by omega
            refine ⟨_, _, List.getElem?_eq_getElem q1, hn.2 _ _ _ (List.getElem?_eq_getElem q1) (List.getElem?_eq_getElem q2), ?_⟩
            rw [s3j]; exact List.getElem?_eq_getElem q2
          · rw [if_neg q]
            rw [if_neg (by omega)] at s3j
            have hj2 : j < len * i.size := by omega
            rw [k6 j hj2]
            have q1 : j < old.length := by omega
            have q2 : j < os.length := by omega
            refine ⟨_, _, List.getElem?_eq_getElem q1, k2.2 _ _ _ (List.getElem?_eq_getElem q1) (List.getElem?_eq_getElem q2), ?_⟩
            rw [s3j]
            have := k3 j _ (List.getElem?_eq_getElem q2)
            simpa [World.cell?, B.at_] using this
        · simp only
          refine ⟨Nat.mul_le_mul_right _ hroom, ?_⟩
          have : off + (tg.cap - oe) * i.size = tg.cap * i.size := by rw [hoff, ← Nat.add_mul]; congr 1; omega
          rw [s2.csize]; omega
        · simp only at p1 p2 ⊢
          rw [s2.csize] at p2
          have := B.thaw (off + j) (k5 j p1) (by omega)
          rwa [← Nat.add_assoc] at this
      obtain ⟨ρ', o1, o2, o3, o4⟩ := h.over hb ht _ ⟨tg.blk, tg.base + off, tg.cap - oe⟩ cs' fr hBR (.inl rfl)
        (h.below.trans ⟨s2.os, s2.tape, s2.output, by rw [s2.size]; exact Nat.le_refl _, fun k hk => s2.other k (by omega)⟩) (fun k hk _ => s2.other k hk)
      refine ⟨ρ', _, w', o1, hA.room ty _ len _ hroom (by rw [add_none]; exact s1), ?_, o3, o4⟩
      have := VR.sl (ρ := ρ') (b := st.next) (o := 0) (n := len + n) (c := big) o2 (by rw [capR_big (by omega)]; show len + n ≤ tg.cap - oe - (big - big); omega)
      rw [capR_big (by omega)] at this
      simpa using this
    · -- a new block
      have hold' : ∀ w', w'.heap = w.heap → (Builtin.firstCells i.size len (.slice (some ⟨tg.blk, tg.base + off, none⟩) len (tg.cap - oe))).run P w' = .ok os.toArray w' := fun w' hw => by
        simp only [Builtin.firstCells]
        rw [← k4]
        exact run_loadL fun i v hv => by
          have := k3 i v hv
          simpa only [World.cell?, hw] using this
      have hno : tg.cap - oe < len + n := by omega
      have hrun := hA.grow ty (some ⟨tg.blk, tg.base + off, none⟩) len _ os hold' hno hby hl
      have hge := grown_ge (w := w) (need := len + n) (old := tg.cap - oe) (e := e)
      generalize grownCap w (len + n) (tg.cap - oe) e = C at hrun hge
      have hcs : (os.toArray ++ us.toArray ++ Builtin.zeroCells z.cells (C - (len + n))).size = C * i.size := by
        rw [Array.size_append, Array.size_append, size_zeroCells, hz, List.size_toArray, List.size_toArray, k4, ← hn.1, hnew, ← Nat.add_mul, ← Nat.add_mul]
        congr 1; omega
      have hBR : BR w0 (w.drew.alloc (.cells (os.toArray ++ us.toArray ++ Builtin.zeroCells z.cells (C - (len + n))) e)) ρ ⟨putCells new T' (len * i.size), (len + n) * i.size, e, i.size, false, fz⟩ ⟨w.heap.size, 0, C⟩
          (os.toArray ++ us.toArray ++ Builtin.zeroCells z.cells (C - (len + n))) ((0, 0), e) := by
        refine ⟨.inl h.below.size, heap_alloc_new w.drew _, fun j hj => ?_, fun q => (by cases q), fun _ => ⟨Nat.mul_le_mul_right _ hge, ?_⟩, fun j _ p2 => ?_, fun _ => rfl, fun q => (by cases q)⟩
        · have hadd : (len + n) * i.size = len * i.size + n * i.size := Nat.add_mul _ _ _
          simp only at hj ⊢
          obtain ⟨v, c, r1, r2, r3⟩ := putPut k2 hn hlo (Builtin.zeroCells z.cells (C - (len + n))) j (by omega)
          refine ⟨v, c, ?_, r2, by rw [Nat.zero_add]; exact r3⟩
          rw [get_putCells] at r1 ⊢
          by_cases q : len * i.size ≤ j ∧ j < len * i.size + new.length
          · rw [if_pos q] at r1 ⊢; exact r1
          · rw [if_neg q] at r1 ⊢
            rw [get_putCells, if_pos (by omega)] at r1
            rw [k6 j (by omega)]; exact r1
        · rw [hcs]; show 0 + C * i.size ≤ _; omega
        · rintro ⟨_, q⟩; exact absurd q (Nat.not_lt_zero _)
      obtain ⟨ρ', o1, o2, o3, o4⟩ := h.over hb ht _ ⟨w.heap.size, 0, C⟩ _ _ hBR (.inr rfl) (h.below.drew.alloc h.below.size _) (fun k hk hk2 => heap_alloc_old w.drew _ k hk2)
      refine ⟨ρ', _, _, o1, hrun, ?_, o3, o4⟩
      have := VR.sl (ρ := ρ') (b := st.next) (o := 0) (n := len + n) (c := big) o2 (by rw [capR_big (by omega)]; show len + n ≤ C - (big - big); omega)
      rw [capR_big (by omega)] at this
      simpa using this
end Go.Proofs.YtaambeficfiacaaGreatDoor.Ev
