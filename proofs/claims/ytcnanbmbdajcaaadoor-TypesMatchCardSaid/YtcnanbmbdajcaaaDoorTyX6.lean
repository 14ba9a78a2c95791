/- The program's Match. Condition: lists of nodes have a length. -/
-- by tools/gen_match.py
import Derived.Test.YtcnanbmbdajcaaaDoorTyX2
import Derived.Test.YtcnanbmbdajcaaaDoorTyX3
import Derived.Test.YtcnanbmbdajcaaaDoorTyX5
import Derived.Test.YtcnanbmbdajcaaaDoorTyN
import Derived.Deep.RegionHeld3
namespace Go.Proofs.YtcnanbmbdajcaaaDoor
open Go.RowKit M

/-! from nested types to counted ones -/
theorem itK_full {f : List TN → Option (List TN)} (hf : ∀ ts r, f ts = some r → ∀ m, szM (m + 1) ts = (szM m r).map (· + (ts.length - r.length)) ∧ r.length ≤ ts.length) :
    ∀ n ts r, itK f n ts = some r → ∀ m, szM (m + n) ts = (szM m r).map (· + (ts.length - r.length)) ∧ r.length ≤ ts.length := by
  intro n
  induction n with
  | zero =>
    intro ts r h m
    simp only [itK, Option.some.injEq] at h
    subst h
    refine ⟨?_, Nat.le_refl _⟩
    cases szM m ts <;> simp
  | succ n ih =>
    intro ts r h m
    unfold itK at h
    split at h
    · rename_i r' h'
      obtain ⟨a1, a2⟩ := hf ts r' h' (m + n)
      obtain ⟨b1, b2⟩ := ih r' r h m
      refine ⟨?_, by omega⟩
      rw [← Nat.add_assoc, a1, b1]
      cases szM m r with
      | none => rfl
      | some z => simp; omega
    · cases h
theorem bt_full : ∀ d ts r, bt d ts = some r → ∀ m, szM (m + 1) ts = (szM m r).map (· + (ts.length - r.length)) ∧ r.length ≤ ts.length := by
  intro d
  induction d with
  | zero => intro ts r h; cases h
  | succ d ih =>
    intro ts r h m
    cases ts with
    | nil => cases h
    | cons t l =>
      unfold bt at h
      split at h
      · obtain ⟨a1, a2⟩ := itK_full ih _ _ _ h m
        refine ⟨?_, by simp; omega⟩
        simp only [szM]
        rw [a1]
        cases szM m r with
        | none => rfl
        | some z => simp; omega
      · cases h
theorem full_valid {ts : List TN} (h : valT ts = true) : Full 1 ts := by
  unfold valT at h
  simp at h
  obtain ⟨a, _⟩ := bt_full 64 ts [] h.2 0
  unfold Full
  rw [a]; simp [szM]
theorem nodes_valid {ts : List TN} (h : valT ts = true) : ∀ t ∈ ts, vN t = true := by
  unfold valT at h
  simp at h
  exact bt_valid h.2
theorem leaves_valid {ts : List TN} (h : valT ts = true) : M.Leaves ts := fun t ht h1 => vN_var (nodes_valid h t ht) h1
theorem vN_num {t : TN} (h : vN t = true) : 0 ≤ t.2.1 ∧ t.2.1 ≤ 1073741824 := by
  unfold vN at h
  repeat' split at h
  all_goals first | (simp at h; omega) | (cases h)
theorem wf_num {x : Int} (h0 : 0 ≤ x) (h1 : x ≤ 1073741824) : (Lit.int .i64 x).wf = true := by
  have h : IntKind.i64.min = -9223372036854775808 := rfl
  have h' : IntKind.i64.max = 9223372036854775807 := rfl
  show (decide (IntKind.i64.min ≤ x) && decide (x ≤ IntKind.i64.max)) = true
  rw [h, h', decide_eq_true (by omega), decide_eq_true (by omega)]
  rfl

theorem SMap.up {w : World} {g n n' : Nat} {M : Int → Option Value} (h : SMap w g n M) (hn : n ≤ n') : SMap w g n' M := by
  obtain ⟨xs, c, h1, h2, h3, h4, h5⟩ := h
  exact ⟨xs, c, h1, h2, h3, Nat.le_trans h4 hn, h5⟩
/-- what the program's map says, and the model -/
def EnvR (w : World) (M : Int → Option Value) (e : Int → Option (List TN)) : Prop := ∀ k, (M k = none ∧ e k = none) ∨ ∃ v ts, M k = some v ∧ e k = some ts ∧ Sl w v ts
theorem EnvR.below {w w' : World} {M : Int → Option Value} {e : Int → Option (List TN)} (h : EnvR w M e) (hb : Below w.heap.size w w') : EnvR w' M e := fun k => by
  rcases h k with q | ⟨v, ts, a, b, c⟩
  · exact .inl q
  · exact .inr ⟨v, ts, a, b, c.below hb⟩
theorem EnvR.vals {w : World} {M : Int → Option Value} {e : Int → Option (List TN)} (h : EnvR w M e) : Vals w M := fun k v hk => by
  rcases h k with q | ⟨v', ts, a, b, c⟩
  · rw [q.1] at hk; cases hk
  · rw [a] at hk; cases hk; exact ⟨ts, c⟩
theorem EnvR.put {w : World} {M : Int → Option Value} {e : Int → Option (List TN)} (h : EnvR w M e) (k : Int) {v : Value} {ts : List TN} (hs : Sl w v ts) : EnvR w (putM M k v) (setE e k ts) := fun x => by
  unfold putM setE
  by_cases hx : x = k
  · rw [if_pos hx, if_pos hx]; exact .inr ⟨v, ts, rfl, rfl, hs⟩
  · rw [if_neg hx, if_neg hx]; exact h x
def matM (ts us : List TN) : Bool := valT ts && (valT us && mtch ts us noE)
def MPost (ts us : List TN) (w : World) (e : Ending) (w' : World) : Prop := ∃ v, e = .returned (.tuple #[v, .bool (matM ts us)]) ∧ Below w.heap.size w w'
theorem mtch_var {t : TN} {a b : List TN} {e : Int → Option (List TN)} {z : Nat} (hk : t.1 = 1) (hz : szM 1 b = some z) :
    mtch (t :: a) b e = ((match e t.2.1 with | some y => decide (y = b.take z) | none => true) && mtch a (b.drop z) (setE e t.2.1 (b.take z))) := by
  conv => lhs; unfold mtch
  rw [if_pos hk, hz]; rfl
theorem mtch_node {t u : TN} {a b : List TN} {e : Int → Option (List TN)} (hk : t.1 ≠ 1) : mtch (t :: a) (u :: b) e = (decide (t = u) && mtch a b e) := by
  conv => lhs; unfold mtch
  rw [if_neg hk]
theorem step_put {P : Program} {w : World} {ops : Array Oper} {o : Oper} {a : Act} {K : Act → World → Prop} {Q : Exit → Act → World → Prop} {E : Prop} (hgd : o.guard = none) (m x v : Operand) (t : TypeId) (hop : o.op = Op.mapUpdate t m x v) (kt et : TypeId)
    (ht : P.underlying t = some (.map kt et)) (hkt : P.underlying kt = some (.int .i64)) (g n : Nat) (M : Int → Option Value) (k : Int) (hw : (Lit.int .i64 k).wf = true) (val : Value) (hm : a.eval m = .map (some g)) (hx : a.eval x = .int .i64 k) (hv : a.eval v = val) (h : SMap w g n M)
    (hK : ∀ w', SMap w' g (n + 1) (putM M k val) → w.grownBy w' (some g) → K (a.put o.dst undef) w') : if Region.wanted o (yielded ops a.tmps) = true then Oper.wp P o a w K Q else E := by
  have hw2 : Region.wanted o (yielded ops a.tmps) = true := by simp [Region.wanted, hgd]
  rw [if_pos hw2]
  obtain ⟨w', hrun, r1, r2⟩ := h.put ht hkt k hw val
  unfold Oper.wp
  simp [execOp, hop, hm, hx, hv, hrun, Result.andThen]
  exact hK w' r1 r2
theorem InC.mapped {w w' : World} {A : Option Addr} {xs : List Value} {g n : Nat} {M : Int → Option Value} (h : InC w A xs) (hm : SMap w g n M) (hg : w.grownBy w' (some g)) : InC w' A xs := by
  rcases h with h | ⟨b, off, h1, h2, h3⟩
  · exact .inl h
  · cases xs with
    | nil => exact .inl rfl
    | cons x r =>
      have hb : b ≠ g := by
        rintro rfl
        obtain ⟨ys, c, hh, _⟩ := hm
        have h4 := h3 0 x rfl
        simp [World.cell?, hh] at h4
      have hbl := hg.block b h2 (fun e => hb (by injection e))
      exact .inr ⟨b, off, h1, Nat.lt_of_lt_of_le h2 hg.size, fun i u hu => (World.cell?_of_block hbl).trans (h3 i u hu)⟩
theorem EnvR.mapped {w w' : World} {g n : Nat} {M M' : Int → Option Value} {e : Int → Option (List TN)} (h : EnvR w M e) (hm : SMap w g n M') (hg : w.grownBy w' (some g)) : EnvR w' M e := fun k => by
  rcases h k with q | ⟨v, ts, a, b, A, c, h1, h2, h3⟩
  · exact .inl q
  · exact .inr ⟨v, ts, a, b, A, c, h1, h2, h3.mapped hm hg⟩
/-- the rest of a list behind its first z nodes -/
theorem cut_in {w : World} {B : Option Addr} {us : List TN} {z c : Nat} (h : InC w B (us.flatMap ndCells)) (hc : us.length ≤ c) : InC w (if c = z then B else B.map (·.add (z * 3))) ((us.drop z).flatMap ndCells) := by
  rw [flat_drop nd_len]
  refine InC.cut h fun e => ?_
  rw [← flat_drop nd_len, List.drop_eq_nil_of_le (by omega)]; rfl

set_option linter.unusedSimpArgs false in
set_option maxRecDepth 100000 in
set_option maxHeartbeats 12800000 in
theorem match_any (w : World) (A : Option Addr) (n c : Nat) (ts : List TN) (hn : n = ts.length) (hl : n ≤ maxLen) (hc : n ≤ c) (hA : InC w A (ts.flatMap ndCells)) (B : Option Addr) (m cb : Nat) (us : List TN) (hm : m = us.length) (hml : m ≤ maxLen) (hmc : m ≤ cb) (hB : InC w B (us.flatMap ndCells)) :
    Calls Tryd.prog 20 #[.slice A n c, .slice B m cb] w (MPost ts us w) := by
  subst hn
  subst hm
  have HA := hide hA
  have HBB := hide hB
  unfold maxLen at hl hml
  have hmm := @run_makeMap Tryd.prog
  clear hA hB
  go_enter Tryd.func20, Tryd.ntmps20
  go_wp2_with fail
  cases hv : valT ts
  · have HMM : Hid (matM ts us = false) := Lib.hid (by unfold matM; rw [hv]; rfl)
    refine (valid_b ts _ hv _ A c (by unfold maxLen; omega) hc (unhide HA)).mono ?_
    rintro e w1 ⟨rfl, hb1⟩
    have HB1 := hide hb1
    clear hb1
    go_wp2_with fail
    go_ret2
    exact ⟨_, by rw [HMM.out]; rfl, unhide HB1⟩
  refine (valid_b ts _ hv _ A c (by unfold maxLen; omega) hc (unhide HA)).mono ?_
  rintro e w1 ⟨rfl, hb1⟩
  have HB1 := hide hb1
  have HU1 := hide ((unhide HBB).below hb1)
  clear hb1
  go_wp2_with fail
  cases hv2 : valT us
  · have HMM : Hid (matM ts us = false) := Lib.hid (by unfold matM; rw [hv2]; simp)
    refine (valid_b us _ hv2 _ B cb (by unfold maxLen; omega) hmc (unhide HU1)).mono ?_
    rintro e w2 ⟨rfl, hb2⟩
    have HB2 := hide ((unhide HB1).trans (hb2.mono (unhide HB1).size))
    clear hb2
    go_wp2_with fail
    go_ret2
    exact ⟨_, by rw [HMM.out]; rfl, unhide HB2⟩
  refine (valid_b us _ hv2 _ B cb (by unfold maxLen; omega) hmc (unhide HU1)).mono ?_
  rintro e w2 ⟨rfl, hb2⟩
  have HB2 := hide ((unhide HB1).trans (hb2.mono (unhide HB1).size))
  have HT2 := hide ((unhide HA).below (unhide HB2))
  have HU2 := hide ((unhide HU1).below hb2)
  have HMM : Hid (matM ts us = mtch ts us noE) := Lib.hid (by unfold matM; rw [hv, hv2]; rfl)
  have HFT := Lib.hid (full_valid hv)
  have HFU := Lib.hid (full_valid hv2)
  have HVT := Lib.hid (nodes_valid hv)
  have HVU := Lib.hid (nodes_valid hv2)
  have hlt5 := valT_len hv
  have hlu5 := valT_len hv2
  have hz2 := (unhide HB2).size
  clear hb2 HB1 HU1 hv hv2
  go_wp2_with fail
  clear hmm
  have HM3 := hide (SMap.made w2)
  have HB3 := hide ((unhide HB2).alloc hz2 (.map #[] 0))
  have HT3 := hide ((unhide HT2).alloc (.map #[] 0))
  have HU3 := hide ((unhide HU2).alloc (.map #[] 0))
  have hgl : w2.heap.size < (w2.alloc (.map #[] 0)).heap.size := by simp
  generalize w2.alloc (.map #[] 0) = w3 at *
  generalize w2.heap.size = g at *
  go_loopw [1, 23] (fun bv i wr => ∃ (j k : Nat) (B' : Option Addr) (c' : Nat) (b' : List TN) (M : Int → Option Value) (e : Int → Option (List TN)), i = .int .i64 j ∧ j ≤ ts.length ∧ bv = .slice B' b'.length c' ∧ b'.length ≤ c' ∧ b'.length ≤ 512 ∧ Hid (InC wr B' (b'.flatMap ndCells)) ∧ Hid (InC wr A (ts.flatMap ndCells)) ∧
    Hid (mtch ts us noE = mtch (ts.drop j) b' e) ∧ Hid (Full k (ts.drop j)) ∧ Hid (Full k b') ∧ Hid (∀ t ∈ b', vN t = true) ∧ Hid (SMap wr g j M) ∧ Hid (EnvR wr M e) ∧ Hid (Below w.heap.size w wr)) (fun _ i _ => ts.length - (intOf i).toNat)
  case atStart => exact ⟨0, 1, B, cb, us, fun _ => none, noE, rfl, by omega, rfl, hmc, hlu5, unhide HU3, unhide HT3, rfl, HFT.out, HFU.out, HVU.out, unhide HM3, fun k => .inl ⟨rfl, rfl⟩, unhide HB3⟩
  case round =>
    obtain ⟨j, k, B', c', b', M, e, rfl, hj, rfl, hbc, hb5, hU, hT, hE, hF1, hF2, hVB, hM, hR, hB⟩ := hrel
    by_cases hlt : j < ts.length
    · obtain ⟨t, ht⟩ : ∃ t, ts[j]? = some t := ⟨ts[j], List.getElem?_eq_getElem hlt⟩
      have hd : ts.drop j = t :: ts.drop (j + 1) := by
        rw [List.drop_eq_getElem_cons hlt]
        rw [List.getElem?_eq_getElem hlt] at ht
        rw [Option.some.inj ht]
      obtain ⟨k', rfl⟩ := full_pos (by have := hF1.out; rw [hd] at this; exact this)
      obtain ⟨bb, off, rfl, hbb, hcell⟩ := hT.out.elem nd_len ht (by decide)
      have x0 := hcell 0 _ rfl
      have x1 := hcell 1 _ rfl
      have x2 := hcell 2 _ rfl
      have hvt := HVT.out t (List.mem_of_getElem? ht)
      obtain ⟨hn0, hn1⟩ := vN_num hvt
      have hleaf := Lib.hid (fun h => vN_var hvt h)
      have HF1 : Hid (Full (k' + t.2.2.toNat) (ts.drop (j + 1))) := Lib.hid (by have := hF1.out; rw [hd] at this; exact full_cons this)
      have hE1 := hE.out
      rw [hd] at hE1
      have hbz := hB.out.size
      obtain ⟨kd, num, kids⟩ := t
      simp only [Nat.add_zero] at x0 x1 x2 hn0 hn1
      have hgw := hM.out.lt
      clear hcell ht hd hF1 hE hvt
      by_cases hk : kd = 1
      · subst hk
        have hki : kids = 0 := hleaf.out rfl
        subst hki
        obtain ⟨z, hz, z1, zl, hf2⟩ := full_first hF2.out
        have HE1 := Lib.hid (hE1.trans (mtch_var rfl hz))
        have HF2 := Lib.hid hf2
        have HZ := Lib.hid hz
        have HF1' : Hid (Full k' (ts.drop (j + 1))) := Lib.hid (by have := HF1.out; simpa using this)
        have hkk : Hid (∀ t ∈ b', 0 ≤ t.2.2 ∧ t.2.2 ≤ 9) := Lib.hid fun t ht => vN_kids (hVB.out t ht)
        have HXB := hide (Blk.new wr 33 #[.int .i64 1, .int .i64 num, .int .i64 0])
        have HUa := hide (hU.out.alloc (.cells #[.int .i64 1, .int .i64 num, .int .i64 0] 33))
        have HTa := hide (hT.out.alloc (.cells #[.int .i64 1, .int .i64 num, .int .i64 0] 33))
        have HMa := hide (hM.out.alloc (.cells #[.int .i64 1, .int .i64 num, .int .i64 0] 33))
        have HRa := hide (hR.out.below ((Below.refl wr.heap.size wr).alloc (Nat.le_refl _) (.cells #[.int .i64 1, .int .i64 num, .int .i64 0] 33)))
        have HBa := hide (hB.out.alloc hbz (.cells #[.int .i64 1, .int .i64 num, .int .i64 0] 33))
        have hxb : wr.heap.size < (wr.alloc (.cells #[.int .i64 1, .int .i64 num, .int .i64 0] 33)).heap.size := by simp
        clear hz hf2 hE1 HF1 hF2
        go_wp2_with fail
        generalize hwa : wr.alloc (.cells #[.int .i64 1, .int .i64 num, .int .i64 0] 33) = wa at *
        generalize hnb : wr.heap.size = nb at *
        have y0 : wa.cell? ⟨nb, 0, none⟩ = some (.int .i64 1) := (unhide HXB).cell 0
        have y1 : wa.cell? ⟨nb, 1, none⟩ = some (.int .i64 num) := (unhide HXB).cell 1
        clear hwa
        refine (size_any wa B' b'.length c' z b' rfl hb5 hkk.out HZ.out (unhide HUa)).mono ?_
        rintro e9 w9 ⟨rfl, rfl⟩
        have hlk := (unhide HMa).look (P := Tryd.prog) (t := 68) Tryd.underlying68 Tryd.underlying3 (zero_sl _) num true
        have HST : Hid (InC w9 B' ((b'.take z).flatMap ndCells)) := Lib.hid (by rw [flat_take nd_len]; exact (unhide HUa).take _)
        rcases unhide HRa num with ⟨m1, m2⟩ | ⟨v, old, m1, m2, hsl⟩
        · rw [m1] at hlk
          simp only [if_true] at hlk
          have HE2 : Hid (mtch ts us noE = mtch (ts.drop (j + 1)) (b'.drop z) (setE e num (b'.take z))) := Lib.hid (by rw [HE1.out]; simp only [m2, Bool.true_and])
          clear m1 m2
          go_wp2_with fail
          have HTL : Hid (z = (b'.take z).length) := Lib.hid (by rw [List.length_take]; omega)
          have fd0 : Hid (w9.drew.cell? ⟨nb, 1, none⟩ = some (.int .i64 num)) := y1
          have HMd := hide ((unhide HMa).drew)
          have HRd : Hid (EnvR w9.drew M e) := unhide HRa
          have HBd : Hid (Below w.heap.size w w9.drew) := below_drew (unhide HBa)
          have HUd : Hid (InC w9.drew B' (b'.flatMap ndCells)) := (unhide HUa).drew
          have HTd : Hid (InC w9.drew (some ⟨bb, off, none⟩) (ts.flatMap ndCells)) := (unhide HTa).drew
          have HSd : Hid (InC w9.drew B' ((b'.take z).flatMap ndCells)) := HST.out.drew
          have hxd : nb < w9.drew.heap.size := hxb
          refine wp_region_noPanic ?_
          refine wp_region_held_drew (S := fun W => W.cell? ⟨nb, 1, none⟩ = some (.int .i64 num)) (by kernel_rfl) fd0 (fun _ => ?_)
          generalize w9.drew = wd at *
          try simp only [Act.put, List.setIfInBounds_toArray, List.set_cons_zero, List.set_cons_succ]
          refine wpAnyH_take (i := 0) (oi := { dst := some 48, op := Op.move (Operand.tmp 6), type := 68, pos := "types.go:89", after := #[], guard := none }) (v := ?_) rfl (by kernel_rfl) (by kernel_rfl) (by kernel_rfl) (fun _ _ _ h => h) (Or.inl ⟨by rfl, ?_⟩) fd0 ?_
          rotate_left 1
          · intro w hSw
            try dsimp only at hSw
            go_simp
            first
              | done
              | with_reducible rfl
              | rw [if_neg (by omega)]
          try simp only [Act.put, List.setIfInBounds_toArray, List.set_cons_zero, List.set_cons_succ]
          refine wpAnyH_take (i := 1) (oi := { dst := some 49, op := Op.fieldAddr 33 (Operand.tmp 8) 1, type := 0, pos := "types.go:89", after := #[], guard := none }) (v := ?_) rfl (by kernel_rfl) (by kernel_rfl) (by kernel_rfl) (fun _ _ _ h => h) (Or.inl ⟨by rfl, ?_⟩) fd0 ?_
          rotate_left 1
          · intro w hSw
            try dsimp only at hSw
            go_simp
            first
              | done
              | with_reducible rfl
              | rw [if_neg (by omega)]
          try simp only [Act.put, List.setIfInBounds_toArray, List.set_cons_zero, List.set_cons_succ]
          refine wpAnyH_take (i := 2) (oi := { dst := some 50, op := Op.load 3 (Operand.tmp 49), type := 3, pos := "types.go:89", after := #[{ on := 1, ground := Ground.data }], guard := none }) (v := ?_) rfl (by kernel_rfl) (by kernel_rfl) (by kernel_rfl) (fun _ _ _ h => h) (Or.inl ⟨by rfl, ?_⟩) fd0 ?_
          rotate_left 1
          · intro w hSw
            try dsimp only at hSw
            go_simp
            first
              | done
              | with_reducible rfl
              | rw [if_neg (by omega)]
          try simp only [Act.put, List.setIfInBounds_toArray, List.set_cons_zero, List.set_cons_succ]
          refine wpAnyH_take (i := 3) (oi := { dst := some 51, op := Op.move (Operand.tmp 1), type := 22, pos := "types.go:89", after := #[], guard := none }) (v := ?_) rfl (by kernel_rfl) (by kernel_rfl) (by kernel_rfl) (fun _ _ _ h => h) (Or.inl ⟨by rfl, ?_⟩) fd0 ?_
          rotate_left 1
          · intro w hSw
            try dsimp only at hSw
            go_simp
            first
              | done
              | with_reducible rfl
              | rw [if_neg (by omega)]
          try simp only [Act.put, List.setIfInBounds_toArray, List.set_cons_zero, List.set_cons_succ]
          refine wpAnyH_take (i := 4) (oi := { dst := some 52, op := Op.move (Operand.tmp 9), type := 3, pos := "types.go:89", after := #[], guard := none }) (v := ?_) rfl (by kernel_rfl) (by kernel_rfl) (by kernel_rfl) (fun _ _ _ h => h) (Or.inl ⟨by rfl, ?_⟩) fd0 ?_
          rotate_left 1
          · intro w hSw
            try dsimp only at hSw
            go_simp
            first
              | done
              | with_reducible rfl
              | rw [if_neg (by omega)]
          try simp only [Act.put, List.setIfInBounds_toArray, List.set_cons_zero, List.set_cons_succ]
          refine wpAnyH_take (i := 5) (oi := { dst := some 53, op := Op.slice 22 (Operand.tmp 51) none (some (Operand.tmp 52)) none, type := 22, pos := "types.go:89", after := #[{ on := 3, ground := Ground.data }, { on := 4, ground := Ground.data }], guard := none }) (v := .slice B' z c') rfl (by kernel_rfl) (by kernel_rfl) (by kernel_rfl) (fun _ _ _ h => h) (Or.inl ⟨by rfl, ?_⟩) fd0 ?_
          · intro w hSw
            go_simp
            intro hcz; omega
          try simp only [Act.put, List.setIfInBounds_toArray, List.set_cons_zero, List.set_cons_succ]
          refine wpAnyH_ready (rs := [6]) (by kernel_rfl) (by simp) ?_
          refine AllReadyH.cons (o := { dst := none, op := Op.mapUpdate 68 (Operand.tmp 48) (Operand.tmp 50) (Operand.tmp 53), type := 0, pos := "types.go:89", after := #[{ on := 0, ground := Ground.data }, { on := 2, ground := Ground.data }, { on := 5, ground := Ground.data }, { on := 0, ground := Ground.phase }, { on := 1, ground := Ground.phase }, { on := 2, ground := Ground.phase }, { on := 3, ground := Ground.phase }, { on := 4, ground := Ground.phase }, { on := 5, ground := Ground.phase }], guard := none }) rfl (fun K hK => ?_) AllReadyH.nil
          refine step_put rfl _ _ _ 68 rfl 3 22 Tryd.underlying68 Tryd.underlying3 g j M num (wf_num hn0 hn1) (.slice B' z c') ?_ ?_ ?_ (unhide HMd) ?_
          · go_simp
          · go_simp
          · go_simp
          intro w12 hm12 hg12
          have HM12 := hide hm12
          have HB12 := hide (below_grown (unhide HBd) hg12 hz2 (Nat.le_refl _))
          have HU12 := hide ((unhide HUd).mapped (unhide HMd) hg12)
          have HT12 := hide ((unhide HTd).mapped (unhide HMd) hg12)
          have HR12 : Hid (EnvR w12 (putM M num (.slice B' z c')) (setE e num (b'.take z))) := hide (((unhide HRd).mapped (unhide HMd) hg12).put num ⟨B', c', by rw [← HTL.out], by rw [← HTL.out]; omega, (unhide HSd).mapped (unhide HMd) hg12⟩)
          have e1 := (World.cell?_of_block (hg12.block nb hxd (fun q => by injection q with q; omega))).trans fd0
          refine hK.out _ _ e1 (fun _ => ?_)
          clear hK K
          try simp only [Act.put, List.setIfInBounds_toArray, List.set_cons_zero, List.set_cons_succ]
          refine wpAnyH_done (by kernel_rfl) ?_ _
          refine NoPanic.normal ?_
          have HCU := hide (cut_in (z := z) (unhide HU12) hbc)
          have HVD : Hid (∀ t ∈ b'.drop z, vN t = true) := Lib.hid fun t ht => hVB.out t (List.mem_of_mem_drop ht)
          clear HMd HRd HBd HUd HTd HSd
          go_wp2_with fail
          go_roundw
          case rel => exact ⟨j + 1, k', (if c' = z then B' else B'.map (·.add (z * 3))), c' - z, b'.drop z, putM M num (.slice B' z c'), setE e num (b'.take z), by go_num, by omega, by rw [List.length_drop], by rw [List.length_drop]; omega, by rw [List.length_drop]; omega, unhide HCU, unhide HT12, HE2.out, HF1'.out, HF2.out, HVD.out, unhide HM12, unhide HR12, unhide HB12⟩
          case measure => simp [intOf]; omega
        · rw [m1] at hlk
          simp only [if_true] at hlk
          obtain ⟨A2, c2, rfl, hol, hI2⟩ := hsl
          have HI2 := hide hI2
          have HE2 : Hid (mtch ts us noE = (decide (old = b'.take z) && mtch (ts.drop (j + 1)) (b'.drop z) (setE e num (b'.take z)))) := Lib.hid (by rw [HE1.out]; simp only [m2])
          have htl : (b'.take z).length = z := by rw [List.length_take]; omega
          have HTL := Lib.hid htl.symm
          clear m1 m2 hI2 htl
          go_wp2_with fail
          refine (tequal_any old (b'.take z) old.length z rfl HTL.out (by omega) A2 B' c2 c' w9 (unhide HI2) HST.out).mono ?_
          rintro e10 w10 ⟨rfl, mq, rfl⟩
          cases hdec : decide (old = b'.take z)
          · have HMF : Hid (matM ts us = false) := Lib.hid (by rw [HMM.out, HE2.out, hdec]; rfl)
            go_wp2_with fail
            go_ret2
            exact ⟨_, by rw [HMF.out]; rfl, below_drewN (unhide HBa) mq⟩
          · have HE3 : Hid (mtch ts us noE = mtch (ts.drop (j + 1)) (b'.drop z) (setE e num (b'.take z))) := Lib.hid (by rw [HE2.out, hdec]; rfl)
            go_wp2_with fail
            have HMb := hide ((unhide HMa).drewN mq)
            have HRb : Hid (EnvR (w9.drewN mq) M e) := unhide HRa
            have HBb := hide (below_drewN (unhide HBa) mq)
            have HUb := hide ((unhide HUa).drewN mq)
            have HTb := hide ((unhide HTa).drewN mq)
            have HSb : Hid (InC (w9.drewN mq) B' ((b'.take z).flatMap ndCells)) := HST.out.drewN mq
            have hxb' : nb < (w9.drewN mq).heap.size := hxb
            have y1' : (w9.drewN mq).cell? ⟨nb, 1, none⟩ = some (.int .i64 num) := y1
            clear HMa HRa HBa HUa HTa HST y0 y1 hxb HXB HI2 hlk
            generalize w9.drewN mq = w13 at *
            have HMa := HMb
            have HRa := HRb
            have HBa := HBb
            have HUa := HUb
            have HTa := HTb
            have HST := HSb
            have hxb := hxb'
            have y1 := y1'
            clear HMb HRb HBb HUb HTb HSb hxb' y1'
            have fd0 : Hid (w13.drew.cell? ⟨nb, 1, none⟩ = some (.int .i64 num)) := y1
            have HMd := hide ((unhide HMa).drew)
            have HRd : Hid (EnvR w13.drew M e) := unhide HRa
            have HBd : Hid (Below w.heap.size w w13.drew) := below_drew (unhide HBa)
            have HUd : Hid (InC w13.drew B' (b'.flatMap ndCells)) := (unhide HUa).drew
            have HTd : Hid (InC w13.drew (some ⟨bb, off, none⟩) (ts.flatMap ndCells)) := (unhide HTa).drew
            have HSd : Hid (InC w13.drew B' ((b'.take z).flatMap ndCells)) := HST.out.drew
            have hxd : nb < w13.drew.heap.size := hxb
            refine wp_region_noPanic ?_
            refine wp_region_held_drew (S := fun W => W.cell? ⟨nb, 1, none⟩ = some (.int .i64 num)) (by kernel_rfl) fd0 (fun _ => ?_)
            generalize w13.drew = wd at *
            try simp only [Act.put, List.setIfInBounds_toArray, List.set_cons_zero, List.set_cons_succ]
            refine wpAnyH_take (i := 0) (oi := { dst := some 48, op := Op.move (Operand.tmp 6), type := 68, pos := "types.go:89", after := #[], guard := none }) (v := ?_) rfl (by kernel_rfl) (by kernel_rfl) (by kernel_rfl) (fun _ _ _ h => h) (Or.inl ⟨by rfl, ?_⟩) fd0 ?_
            rotate_left 1
            · intro w hSw
              try dsimp only at hSw
              go_simp
              first
                | done
                | with_reducible rfl
                | rw [if_neg (by omega)]
            try simp only [Act.put, List.setIfInBounds_toArray, List.set_cons_zero, List.set_cons_succ]
            refine wpAnyH_take (i := 1) (oi := { dst := some 49, op := Op.fieldAddr 33 (Operand.tmp 8) 1, type := 0, pos := "types.go:89", after := #[], guard := none }) (v := ?_) rfl (by kernel_rfl) (by kernel_rfl) (by kernel_rfl) (fun _ _ _ h => h) (Or.inl ⟨by rfl, ?_⟩) fd0 ?_
            rotate_left 1
            · intro w hSw
              try dsimp only at hSw
              go_simp
              first
                | done
                | with_reducible rfl
                | rw [if_neg (by omega)]
            try simp only [Act.put, List.setIfInBounds_toArray, List.set_cons_zero, List.set_cons_succ]
            refine wpAnyH_take (i := 2) (oi := { dst := some 50, op := Op.load 3 (Operand.tmp 49), type := 3, pos := "types.go:89", after := #[{ on := 1, ground := Ground.data }], guard := none }) (v := ?_) rfl (by kernel_rfl) (by kernel_rfl) (by kernel_rfl) (fun _ _ _ h => h) (Or.inl ⟨by rfl, ?_⟩) fd0 ?_
            rotate_left 1
            · intro w hSw
              try dsimp only at hSw
              go_simp
              first
                | done
                | with_reducible rfl
                | rw [if_neg (by omega)]
            try simp only [Act.put, List.setIfInBounds_toArray, List.set_cons_zero, List.set_cons_succ]
            refine wpAnyH_take (i := 3) (oi := { dst := some 51, op := Op.move (Operand.tmp 1), type := 22, pos := "types.go:89", after := #[], guard := none }) (v := ?_) rfl (by kernel_rfl) (by kernel_rfl) (by kernel_rfl) (fun _ _ _ h => h) (Or.inl ⟨by rfl, ?_⟩) fd0 ?_
            rotate_left 1
            · intro w hSw
              try dsimp only at hSw
              go_simp
              first
                | done
                | with_reducible rfl
                | rw [if_neg (by omega)]
            try simp only [Act.put, List.setIfInBounds_toArray, List.set_cons_zero, List.set_cons_succ]
            refine wpAnyH_take (i := 4) (oi := { dst := some 52, op := Op.move (Operand.tmp 9), type := 3, pos := "types.go:89", after := #[], guard := none }) (v := ?_) rfl (by kernel_rfl) (by kernel_rfl) (by kernel_rfl) (fun _ _ _ h => h) (Or.inl ⟨by rfl, ?_⟩) fd0 ?_
            rotate_left 1
            · intro w hSw
              try dsimp only at hSw
              go_simp
              first
                | done
                | with_reducible rfl
                | rw [if_neg (by omega)]
            try simp only [Act.put, List.setIfInBounds_toArray, List.set_cons_zero, List.set_cons_succ]
            refine wpAnyH_take (i := 5) (oi := { dst := some 53, op := Op.slice 22 (Operand.tmp 51) none (some (Operand.tmp 52)) none, type := 22, pos := "types.go:89", after := #[{ on := 3, ground := Ground.data }, { on := 4, ground := Ground.data }], guard := none }) (v := .slice B' z c') rfl (by kernel_rfl) (by kernel_rfl) (by kernel_rfl) (fun _ _ _ h => h) (Or.inl ⟨by rfl, ?_⟩) fd0 ?_
            · intro w hSw
              go_simp
              intro hcz; omega
            try simp only [Act.put, List.setIfInBounds_toArray, List.set_cons_zero, List.set_cons_succ]
            refine wpAnyH_ready (rs := [6]) (by kernel_rfl) (by simp) ?_
            refine AllReadyH.cons (o := { dst := none, op := Op.mapUpdate 68 (Operand.tmp 48) (Operand.tmp 50) (Operand.tmp 53), type := 0, pos := "types.go:89", after := #[{ on := 0, ground := Ground.data }, { on := 2, ground := Ground.data }, { on := 5, ground := Ground.data }, { on := 0, ground := Ground.phase }, { on := 1, ground := Ground.phase }, { on := 2, ground := Ground.phase }, { on := 3, ground := Ground.phase }, { on := 4, ground := Ground.phase }, { on := 5, ground := Ground.phase }], guard := none }) rfl (fun K hK => ?_) AllReadyH.nil
            refine step_put rfl _ _ _ 68 rfl 3 22 Tryd.underlying68 Tryd.underlying3 g j M num (wf_num hn0 hn1) (.slice B' z c') ?_ ?_ ?_ (unhide HMd) ?_
            · go_simp
            · go_simp
            · go_simp
            intro w12 hm12 hg12
            have HM12 := hide hm12
            have HB12 := hide (below_grown (unhide HBd) hg12 hz2 (Nat.le_refl _))
            have HU12 := hide ((unhide HUd).mapped (unhide HMd) hg12)
            have HT12 := hide ((unhide HTd).mapped (unhide HMd) hg12)
            have HR12 : Hid (EnvR w12 (putM M num (.slice B' z c')) (setE e num (b'.take z))) := hide (((unhide HRd).mapped (unhide HMd) hg12).put num ⟨B', c', by rw [← HTL.out], by rw [← HTL.out]; omega, (unhide HSd).mapped (unhide HMd) hg12⟩)
            have e1 := (World.cell?_of_block (hg12.block nb hxd (fun q => by injection q with q; omega))).trans fd0
            refine hK.out _ _ e1 (fun _ => ?_)
            clear hK K
            try simp only [Act.put, List.setIfInBounds_toArray, List.set_cons_zero, List.set_cons_succ]
            refine wpAnyH_done (by kernel_rfl) ?_ _
            refine NoPanic.normal ?_
            have HCU := hide (cut_in (z := z) (unhide HU12) hbc)
            have HVD : Hid (∀ t ∈ b'.drop z, vN t = true) := Lib.hid fun t ht => hVB.out t (List.mem_of_mem_drop ht)
            clear HMd HRd HBd HUd HTd HSd
            go_wp2_with fail
            go_roundw
            case rel => exact ⟨j + 1, k', (if c' = z then B' else B'.map (·.add (z * 3))), c' - z, b'.drop z, putM M num (.slice B' z c'), setE e num (b'.take z), by go_num, by omega, by rw [List.length_drop], by rw [List.length_drop]; omega, by rw [List.length_drop]; omega, unhide HCU, unhide HT12, HE3.out, HF1'.out, HF2.out, HVD.out, unhide HM12, unhide HR12, unhide HB12⟩
            case measure => simp [intOf]; omega
      · have hne : b' ≠ [] := by rintro rfl; exact absurd (full_nil hF2.out) (by omega)
        obtain ⟨u, b2, rfl⟩ : ∃ u b2, b' = u :: b2 := by cases b' with | nil => exact absurd rfl hne | cons u b2 => exact ⟨u, b2, rfl⟩
        have HE1 := Lib.hid (hE1.trans (mtch_node (u := u) (b := b2) hk))
        have g1 : (kd == 1) = false := beq_eq_false_iff_ne.2 hk
        obtain ⟨b9, o9, rfl, hb9, hc9⟩ := hU.out.elem nd_len (k := 0) (t := u) rfl (by decide)
        have z0 := hc9 0 _ rfl
        have z1 := hc9 1 _ rfl
        have z2 := hc9 2 _ rfl
        simp only [Nat.zero_mul, Nat.add_zero, Nat.zero_add] at z0 z1 z2
        have HF2 := Lib.hid (full_cons hF2.out)
        have HVD : Hid (∀ t ∈ b2, vN t = true) := Lib.hid fun t ht => hVB.out t (List.mem_cons_of_mem _ ht)
        have HCU := hide (cut_in (z := 1) hU.out hbc)
        have hbl : (u :: b2).length = b2.length + 1 := rfl
        have HTa := hide hT.out
        have HMa := hide hM.out
        have HRa := hide hR.out
        have HBa := hide hB.out
        clear hE1 hne hc9 hk hT hU hM hR hB hF2 hVB
        obtain ⟨kd', num', kids'⟩ := u
        by_cases he : kd = kd' ∧ num = num' ∧ kids = kids'
        · obtain ⟨rfl, rfl, rfl⟩ := he
          have HE2 : Hid (mtch ts us noE = mtch (ts.drop (j + 1)) b2 e) := Lib.hid (by rw [HE1.out]; simp)
          go_wp2
          go_quiet (fail)
          go_wp2
          go_roundw
          case rel => exact ⟨j + 1, k' + kids.toNat, (if c' = 1 then some ⟨b9, o9, none⟩ else some ⟨b9, o9 + 3, none⟩), c' - 1, b2, M, e, by go_num, by omega, rfl, by omega, by omega, ((unhide HCU).alloc _).drewN nq, ((unhide HTa).alloc _).drewN nq, HE2.out, HF1.out, HF2.out, HVD.out, ((unhide HMa).alloc _).drewN nq |> fun q => q.up (by omega), (unhide HRa).below (below_drewN ((Below.refl wr.heap.size wr).alloc (Nat.le_refl _) _) nq), below_drewN ((unhide HBa).alloc hbz _) nq⟩
          case measure => simp [intOf]; omega
        · have hcase : (kd == kd') = false ∨ ((kd == kd') = true ∧ (num == num') = false) ∨ ((kd == kd') = true ∧ (num == num') = true ∧ (kids == kids') = false) := by
            by_cases q1 : kd = kd'
            · by_cases q2 : num = num'
              · by_cases q3 : kids = kids'
                · exact absurd ⟨q1, q2, q3⟩ he
                · exact .inr (.inr ⟨by simp [q1], by simp [q2], by simp [q3]⟩)
              · exact .inr (.inl ⟨by simp [q1], by simp [q2]⟩)
            · exact .inl (by simp [q1])
          have HMF : Hid (matM ts us = false) := Lib.hid (by
            rw [HMM.out, HE1.out, decide_eq_false (fun q => he ⟨congrArg (fun z => z.1) q, congrArg (fun z => z.2.1) q, congrArg (fun z => z.2.2) q⟩)]; rfl)
          clear he
          rcases hcase with g2 | ⟨g2, g3⟩ | ⟨g2, g3, g4⟩
          all_goals
            go_wp2
            go_quiet (fail)
            go_wp2
            go_ret2
            exact ⟨_, by rw [HMF.out]; rfl, below_drewN ((unhide HBa).alloc hbz _) nq⟩
    · have hjn : ts.drop j = [] := List.drop_eq_nil_of_le (by omega)
      have HMT : Hid (matM ts us = true) := Lib.hid (by rw [HMM.out, hE.out, hjn]; unfold mtch; rfl)
      have hgg := hM.out.lt
      clear hjn hE hF1 hF2
      go_wp2_with fail
      refine (bindings_any wr g j M (by omega) hM.out hR.out.vals).mono ?_
      rintro e9 w9 ⟨⟨v9, rfl⟩, hb9⟩
      have HB9 := hide (hB.out.trans (hb9.mono hB.out.size))
      clear hb9
      go_wp2_with fail
      go_ret2
      exact ⟨_, by rw [HMT.out]; rfl, unhide HB9⟩

end Go.Proofs.YtcnanbmbdajcaaaDoor
