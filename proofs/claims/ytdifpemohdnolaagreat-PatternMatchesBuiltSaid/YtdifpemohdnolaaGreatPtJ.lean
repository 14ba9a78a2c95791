/- The matcher's match. Conditions: the value has at most 2^48 bytes; the list is one of at most 8192 nodes in which a pattern stands at i. -/
import Derived.Test.YtdifpemohdnolaaGreatPtH
namespace Go.Proofs.YtdifpemohdnolaaGreat
open Go.RowKit VM

theorem splitR_len {c : Cd} {v : ByteArray} {l : List ByteArray} (hp : permL c = true) (h : splitR c v = some l) : (l.length : Int) = c.2.2 := by
  obtain ⟨k, num, kids⟩ := c
  unfold splitR at h
  unfold permL at hp
  simp only at h hp ⊢
  by_cases h1 : k = 30 ∨ k = 31
  · rw [if_pos h1] at h hp
    have := of_decide_eq_true hp
    cases h
    simp; omega
  rw [if_neg h1] at h hp
  by_cases h2 : k = 32
  · rw [if_pos h2] at h hp
    have := of_decide_eq_true hp
    split at h <;> cases h
    simp; omega
  rw [if_neg h2] at h hp
  by_cases h3 : k = 33
  · rw [if_pos h3] at h hp
    have := of_decide_eq_true hp
    split at h <;> cases h
    simp; omega
  rw [if_neg h3] at h hp
  have ex : ∀ q, exactR q kids v = some l → (l.length : Int) = kids := by
    intro q hq
    unfold exactR at hq
    split at hq <;> cases hq
    rename_i g
    exact g.2
  by_cases h4 : k = 34
  · rw [if_pos h4] at h; exact ex _ h
  rw [if_neg h4] at h hp
  by_cases h5 : k = 35
  · rw [if_pos h5] at h; exact ex _ h
  rw [if_neg h5] at h hp
  by_cases h7 : k = 37
  · rw [if_pos h7] at h; exact ex _ h
  rw [if_neg h7] at h
  by_cases h6 : k = 36
  · rw [if_pos h6] at h hp
    have := of_decide_eq_true hp
    unfold aroundR at h
    split at h <;> cases h
    rename_i g
    simp only [List.length_append, List.length_take, List.length_drop, List.length_cons, List.length_nil]
    have := g.2
    omega
  rw [if_neg h6] at h
  by_cases h8 : k = 38
  · rw [if_pos h8] at h
    unfold fieldsR at h
    split at h <;> cases h
    rename_i g
    rw [List.length_tail]
    obtain ⟨ps, q, _⟩ := dot_head g.1
    have := g.2.1
    rw [q] at this ⊢
    simp only [List.length_cons] at this ⊢
    omega
  rw [if_neg h8] at h
  by_cases h9 : k = 40
  · rw [if_pos h9] at h
    subst h9
    cases h
    simp at hp
    simp; omega
  · rw [if_neg h9] at h; cases h
theorem mkM_small (k : UInt8) (ps : List ByteArray) : (mkM k ps).size ≤ 131072 := by
  unfold mkM
  split
  · rename_i h; exact (tree_val (Nat.le_refl _) h.2).2.2
  · decide
theorem splitR_size {c : Cd} {v : ByteArray} {l : List ByteArray} (hv : v.size ≤ 281474976710656) (h : splitR c v = some l) : ∀ u ∈ l, u.size ≤ 281474976710656 := by
  obtain ⟨k, num, kids⟩ := c
  unfold splitR at h
  simp only at h
  have ex : ∀ q, exactR q kids v = some l → ∀ u ∈ l, u.size ≤ 281474976710656 := by
    intro q hq
    unfold exactR at hq
    split at hq <;> cases hq
    exact pt_size48 v
  repeat' split at h
  all_goals first
    | (cases h; done)
    | (exact ex _ h)
    | (cases h; intro u hu; cases hu; done)
    | (cases h; intro u hu; simp at hu; subst hu; exact hv)
    | skip
  · unfold aroundR at h
    split at h <;> cases h
    intro u hu
    rcases List.mem_append.1 hu with hu | hu
    · rcases List.mem_append.1 hu with hu | hu
      · exact pt_size48 v u (List.mem_of_mem_take hu)
      · simp at hu
        subst hu
        rw [seq_same]
        exact Nat.le_trans (mkM_small 4 _) (by decide)
    · exact pt_size48 v u (List.mem_of_mem_drop hu)
  · unfold fieldsR at h
    split at h <;> cases h
    exact fun u hu => pt_size48 v u (List.mem_of_mem_tail hu)
/-- the children with the values, one after another; what has been collected is kept in front -/
def mLoop (f : Nat → ByteArray → Option (Nat × List ByteArray)) : List ByteArray → Nat → List ByteArray → Option (Nat × List ByteArray)
  | [], i, acc => some (i, acc)
  | u :: l, i, acc => match f i u with
    | none => none
    | some q => mLoop f l q.1 (acc ++ q.2)
/-- where the pattern at i ends that v matches, and the values of the variables -/
def mtch : Nat → List Cd → Nat → ByteArray → Option (Nat × List ByteArray)
  | 0, _, _, _ => none
  | d + 1, p, i, v => match p[i]? with
    | none => none
    | some c => match splitR c v with
      | none => none
      | some l => mLoop (mtch d p) l (i + 1) (if c.1 = 30 then [v] else [])
theorem mtch_end : ∀ (d : Nat) {p : List Cd} {i j : Nat} {v : ByteArray} {q : Nat} {us : List ByteArray}, pendL d p i = some j → mtch d p i v = some (q, us) → q = j ∧ us.length + i ≤ j
  | 0, _, _, _, _, _, _, h, _ => by cases h
  | d + 1, p, i, j, v, q, us, h, hm => by
    unfold pendL at h
    unfold mtch at hm
    cases hc : p[i]? with
    | none => rw [hc] at h; cases h
    | some c =>
      rw [hc] at h hm
      simp only at h hm
      cases hp : permL c with
      | false => rw [hp, if_neg (by decide)] at h; cases h
      | true =>
        rw [hp, if_pos rfl] at h
        cases hs : splitR c v with
        | none => rw [hs] at hm; cases hm
        | some l =>
          rw [hs] at hm
          simp only at hm
          have hl := splitR_len hp hs
          have key : ∀ (l : List ByteArray) (k i0 : Nat) (acc : List ByteArray), acc.length + i ≤ i0 → loopL (pendL d p) (badL p c) l.length k i0 = some j → mLoop (mtch d p) l i0 acc = some (q, us) → q = j ∧ us.length + i ≤ j := by
            intro l
            induction l with
            | nil =>
              intro k i0 acc ha h1 h2
              cases h1; cases h2
              exact ⟨rfl, ha⟩
            | cons u l ih =>
              intro k i0 acc ha h1 h2
              rw [List.length_cons] at h1
              unfold loopL at h1
              unfold mLoop at h2
              cases hf : pendL d p i0 with
              | none => rw [hf] at h1; cases h1
              | some j1 =>
                rw [hf] at h1
                simp only at h1
                split at h1
                · cases h1
                · cases hm1 : mtch d p i0 u with
                  | none => rw [hm1] at h2; cases h2
                  | some r =>
                    obtain ⟨q1, us1⟩ := r
                    rw [hm1] at h2
                    obtain ⟨rfl, hu⟩ := mtch_end d hf hm1
                    exact ih _ _ _ (by show (acc ++ us1).length + i ≤ _; rw [List.length_append]; omega) h1 h2
          refine key l 0 (i + 1) _ (by split <;> simp <;> omega) ?_ hm
          rw [show l.length = c.2.2.toNat by omega]
          exact h
section
variable {g gm n c : Nat} {p : List Cd} {pA : Option Addr} {w w1 w5 : World} {vv v5 : Value} {vs : List ByteArray} {es : List (ByteArray × Value)} {u : ByteArray}
/-- the matcher with one more variable -/
theorem MS.extend (h : MS g gm p pA n c w vv vs es) (hb : Below w.heap.size w w1) (ho : w5.ownsRow 0 23 1 v5 (vs.length + 1) (vs.map Value.string ++ [.string u])) (hg : w1.grownBy w5 vv.ownBlock) (hor : v5.ownBlock = vv.ownBlock ∨ v5.ownBlock = some w1.heap.size) :
    MS g gm p pA n c (w5.setCell ⟨g, 1, none⟩ v5) v5 (vs ++ [u]) es ∧ MStep g gm w (w5.setCell ⟨g, 1, none⟩ v5) vv v5 := by
  obtain ⟨h1, h2, h3, h4, h5⟩ := h.ne
  have hsz := hb.size
  have k1 : Keep (fun k => k < w.heap.size ∧ some k ≠ vv.ownBlock) w w5 := (Keep.below hb fun k q => q.1).grown hg (fun k q => q.1) fun k e q => q.2 e.symm
  have k2 : Keep (fun k => k < w.heap.size ∧ some k ≠ vv.ownBlock ∧ k ≠ g) w (w5.setCell ⟨g, 1, none⟩ v5) := (k1.mono fun k q => ⟨q.1, q.2.1⟩).setCell (fun q => q.2.2 rfl) v5
  have hst : MStep g gm w (w5.setCell ⟨g, 1, none⟩ v5) vv v5 := ⟨k2.mono fun k q => ⟨q.1, q.2.2.2, q.2.1⟩, fun b hb' => by
    rcases hor with q | q
    · exact .inl (q ▸ hb')
    · rw [q] at hb'; injection hb' with hb'; exact .inr (by omega)⟩
  refine ⟨⟨?_, h.map.keep k2 ⟨h3, h5, fun e => h1 e.symm⟩, h.pat.step hst, h.len, ?_, fun k v hk => ?_⟩, hst⟩
  · have := (h.blk.keep k1 ⟨h2, h4⟩).set_ 1 v5
    exact this
  · rw [List.length_append, List.map_append]
    refine owns_set ho ?_ v5
    intro e
    rcases hor with q | q
    · rw [q] at e; exact h4 e.symm
    · rw [q] at e; injection e with e; omega
  · obtain ⟨A, m, d, q1, q2, q3⟩ := h.memo k v hk
    exact ⟨A, m, d, q1, q2, q3.step hst⟩
end

end Go.Proofs.YtdifpemohdnolaaGreat
namespace Go.Proofs.YtdifpemohdnolaaGreat
open Go.RowKit VM

def MPost (g gm : Nat) (p : List Cd) (pA : Option Addr) (n c : Nat) (vv : Value) (vs : List ByteArray) (r : Option (Nat × List ByteArray)) (w : World) (e : Ending) (w' : World) : Prop :=
  ∃ (vv' : Value) (vs' : List ByteArray) (es' : List (ByteArray × Value)), e = .returned (.int .i64 (encO (r.map Prod.fst))) ∧ MS g gm p pA n c w' vv' vs' es' ∧ MStep g gm w w' vv vv' ∧ ∀ q us, r = some (q, us) → vs' = vs ++ us
def MCon (d : Nat) : Prop := ∀ (g gm : Nat) (p : List Cd) (pA : Option Addr) (n c : Nat) (vv : Value) (vs : List ByteArray) (es : List (ByteArray × Value)) (v : ByteArray) (i j : Nat) (w : World),
  v.size ≤ 281474976710656 → p.length ≤ 8192 → pendL d p i = some j → vs.length ≤ i → MS g gm p pA n c w vv vs es →
  Calls Tryz.prog 45 #[.pointer (some ⟨g, 0, none⟩), .int .i64 (i : Int), .string v] w (MPost g gm p pA n c vv vs (mtch d p i v) w)
theorem loopL_grow {f : Nat → Option Nat} {bad : Nat → Nat → Bool} (hf : ∀ i j, f i = some j → i < j) : ∀ (r k i j : Nat), loopL f bad r k i = some j → i + r ≤ j
  | 0, _, i, j, h => by cases h; omega
  | r + 1, k, i, j, h => by
    unfold loopL at h
    cases hq : f i with
    | none => rw [hq] at h; cases h
    | some q =>
      rw [hq] at h
      simp only at h
      split at h
      · cases h
      · have h1 := hf i q hq
        have h2 := loopL_grow hf r (k + 1) q j h
        omega
theorem mLoop_step {f : Nat → ByteArray → Option (Nat × List ByteArray)} {l : List ByteArray} {k i : Nat} {u : ByteArray} {acc : List ByteArray} (h : l[k]? = some u) : mLoop f (l.drop k) i acc = match f i u with
    | none => none
    | some q => mLoop f (l.drop (k + 1)) q.1 (acc ++ q.2) := by
  have hk : k < l.length := (List.getElem?_eq_some_iff.1 h).1
  rw [List.drop_eq_getElem_cons hk]
  rw [List.getElem?_eq_getElem hk] at h
  rw [Option.some.inj h]; rfl
theorem code_cells (t : Cd) : #[Value.int .i64 t.1, .int .i64 t.2.1, .int .i64 t.2.2] = (cdCells t).toArray := rfl
set_option linter.unusedSimpArgs false in
set_option maxRecDepth 100000 in
set_option maxHeartbeats 6400000 in
theorem match_other (d : Nat) (ih : MCon d) (g gm : Nat) (p : List Cd) (pA : Option Addr) (n c : Nat) (vv : Value) (vs : List ByteArray) (es : List (ByteArray × Value)) (v : ByteArray) (i j : Nat) (w : World)
    (hv : v.size ≤ 281474976710656) (hn8 : p.length ≤ 8192) (t : Cd) (ht : p[i]? = some t) (h30 : t.1 ≠ 30) (hp : permL t = true) (hlo : loopL (pendL d p) (badL p t) t.2.2.toNat 0 (i + 1) = some j) (hvl : vs.length ≤ i) (hS : MS g gm p pA n c w vv vs es) :
    Calls Tryz.prog 45 #[.pointer (some ⟨g, 0, none⟩), .int .i64 (i : Int), .string v] w (MPost g gm p pA n c vv vs (mtch (d + 1) p i v) w) := by
  have hE : mtch (d + 1) p i v = match splitR t v with | none => none | some l => mLoop (mtch d p) l (i + 1) [] := by
    show (match p[i]? with | none => none | some c => _) = _
    rw [ht]
    simp only
    rw [if_neg h30]
    try rfl
  have hin : i < p.length := (List.getElem?_eq_some_iff.1 ht).1
  have hjn : i + 1 + t.2.2.toNat ≤ p.length := by
    have h1 := loopL_grow (fun a b h => (pendL_lt d h).1) _ _ _ _ hlo
    have h2 := loopL_le (n := p.length) (fun a b h => pendL_lt d h) _ _ _ _ (by omega) hlo
    omega
  have hk0 := perm_kids hp
  have hnp := hS.len
  obtain ⟨b, off, hAe, hb, x0, x1, x2⟩ := cd_at hS.pat.in_ ht
  subst hAe
  obtain ⟨pA, hpA⟩ : ∃ z, Hid (z = (some ⟨b, off, none⟩ : Option Addr)) := ⟨_, Lib.hid rfl⟩
  have hS0 := hS.blk.cell 0
  change w.cell? ⟨g, 0, none⟩ = some (.slice (some ⟨b, off, none⟩) n c) at hS0
  have HSP := Lib.hid (fun w2 es2 (h : MS g gm p (some ⟨b, off, none⟩) n c w2 vv vs es2) => split_any g gm p (some ⟨b, off, none⟩) n c vv vs es2 v hv t hp (by omega) w2 h)
  have hb1 : Below w.heap.size w (w.alloc (.cells #[.int .i64 t.1, .int .i64 t.2.1, .int .i64 t.2.2] 27)) := (Below.refl _ w).alloc (Nat.le_refl _) _
  have HB := hide hb1
  have HS := hide (hS.below hb1)
  have HSL := Lib.hid (fun l h => splitR_len (l := l) (v := v) hp h)
  have HSZ := Lib.hid (fun l h => splitR_size (l := l) (c := t) hv h)
  have hin2 : i < n := by omega
  have HI := Lib.hid ih
  have HN8 := Lib.hid hn8
  have HLO := Lib.hid hlo
  have hg1 : ((t.1 : Int) == 30) = false := beq_eq_false_iff_ne.2 h30
  have HNP := Lib.hid hnp
  rw [hE]
  clear hE ih hv hn8 ht h30 hp hlo hS hb1 hpA
  obtain ⟨k, num, kids⟩ := t
  dsimp only at *
  obtain ⟨K, rfl⟩ : ∃ K : Nat, kids = K := ⟨kids.toNat, by omega⟩
  rw [Int.toNat_natCast] at HLO hjn
  generalize splitR (k, num, (K : Int)) v = sr at *
  obtain ⟨R, HR⟩ : ∃ R, Hid (R = match sr with | none => none | some l => mLoop (mtch d p) l (i + 1) []) := ⟨_, Lib.hid rfl⟩
  rw [← HR.out]
  have hn9 : n ≤ 8192 := by have := HN8.out; have := HNP.out; omega
  have hjn2 : i + 1 + K ≤ n := by omega
  clear hnp hin hjn
  go_enter Tryz.func45, Tryz.ntmps45
  go_wp2_with fail
  refine (HSP.out _ es (unhide HS)).mono ?_
  rintro e w1 ⟨A, m, d2, es1, rfl, hl, hS1, hst1⟩
  have HS1 := hide hS1
  have HST1 := hide ((MStep.below vv (unhide HB)).trans hst1)
  clear hS1 hst1 HSP HS HB x0 x1 x2 hS0 hb
  cases sr with
  | none =>
    clear hl HSL HSZ HI HLO
    simp only [Option.isSome_none]
    go_wp2_with fail
    go_ret
    exact ⟨vv, vs, es1, by rw [HR.out]; rfl, unhide HS1, unhide HST1, fun q us h => (by rw [HR.out] at h; cases h)⟩
  | some l =>
    obtain ⟨hm, hP⟩ := hl l rfl
    have HP := hide hP
    have HSL2 := Lib.hid (HSL.out l rfl)
    have HSZ2 := Lib.hid (HSZ.out l rfl)
    have hmK : m = K := by have := HSL2.out; omega
    subst hmK
    have HM := Lib.hid hm
    clear hl hm hP HSL HSZ HSL2
    simp only [Option.isSome_some]
    have gi : IntKind.i64.wrap ((i : Int) + 1) = ((i + 1 : Nat) : Int) := by rw [IntWalk.i64_in _ (by omega)]; simp
    obtain ⟨i1, hi1⟩ : ∃ i1, i1 = i + 1 := ⟨_, rfl⟩
    replace HR : Hid (R = mLoop (mtch d p) l (i + 1) []) := HR
    rw [← hi1] at HR gi HLO
    have hi1n : i1 ≤ n := by omega
    have hvi : vs.length + 1 ≤ i1 := by omega
    have hmn : m ≤ 8192 := by omega
    have gd : decide (n ≤ i) = false := decide_eq_false (by omega)
    go_wp2_with fail
    go_loopw [1, 45] (fun iv kv wr => ∃ (kk iq : Nat) (vv2 : Value) (acc : List ByteArray) (es2 : List (ByteArray × Value)), kv = .int .i64 kk ∧ iv = .int .i64 iq ∧ kk ≤ m ∧ kk + 1 ≤ iq ∧ iq ≤ n ∧ Hid (loopL (pendL d p) (badL p (k, num, (m : Int))) (m - kk) kk iq = some j) ∧ Hid (R = mLoop (mtch d p) (l.drop kk) iq acc) ∧ Hid (MS g gm p (some ⟨b, off, none⟩) n c wr vv2 (vs ++ acc) es2) ∧ Hid (MStep g gm w wr vv vv2) ∧ Hid (PIn wr g gm vv2 A (l.map Value.string)) ∧ Hid ((vs ++ acc).length ≤ iq)) (fun _ kv _ => m - (intOf kv).toNat)
    case atStart => exact ⟨0, i1, vv, [], es1, rfl, by rw [hi1]; simp, by omega, by omega, hi1n, HLO.out, HR.out, by rw [List.append_nil]; exact unhide HS1, unhide HST1, unhide HP, Lib.hid (by rw [List.append_nil]; omega)⟩
    case round =>
      obtain ⟨kk, iq, vv2, acc, es2, rfl, rfl, hkk, hkq, hiq, hL, hR, hS2, hst2, hP2, hvl2⟩ := hrel
      clear HLO HR HS1 HST1 HP
      by_cases hkm : kk < m
      · obtain ⟨u, hu⟩ : ∃ u, l[kk]? = some u := ⟨_, List.getElem?_eq_getElem (by have := HM.out; omega)⟩
        have HR2 := Lib.hid (hR.out.trans (mLoop_step hu))
        have hL2 := (loopL_step (f := pendL d p) (bad := badL p (k, num, (m : Int))) (i := iq) hkm).symm.trans hL.out
        cases hq : pendL d p iq with
        | none => rw [hq] at hL2; cases hL2
        | some jq =>
          rw [hq] at hL2
          simp only at hL2
          have hL3 : loopL (pendL d p) (badL p (k, num, (m : Int))) (m - (kk + 1)) (kk + 1) jq = some j := by
            split at hL2
            · cases hL2
            · exact hL2
          have HL3 := Lib.hid hL3
          have hjq := pendL_lt d hq
          have HC := hide (HI.out g gm p (some ⟨b, off, none⟩) n c vv2 (vs ++ acc) es2 u iq jq wr (HSZ2.out u (List.mem_of_getElem? hu)) HN8.out hq hvl2.out hS2.out)
          obtain ⟨b3, off3, hA3, hb3, hc3⟩ := at1s hP2.out.in_ (i := kk) (u := .string u) (by rw [List.getElem?_map, hu]; rfl)
          subst hA3
          have hjn3 : jq ≤ n := by have := HNP.out; omega
          have hkm2 := Lib.hid hkm
          have HUS := Lib.hid (fun q us (h : mtch d p iq u = some (q, us)) => mtch_end d hq h)
          clear hL2 hL3 hL hR hq hu
          cases hm2 : mtch d p iq u with
          | none =>
            rw [hm2] at HR2 HC
            have HQ : Hid (R = none) := Lib.hid HR2.out
            clear hm2 HR2 HUS
            go_wp2_with fail
            refine (unhide HC).mono ?_
            rintro e w3 ⟨vv3, vs3, es3, rfl, hS3, hst3, _⟩
            have HX := hide (And.intro hS3 (hst2.out.trans hst3))
            clear hS3 hst3
            change Hid (Calls _ _ _ _ _) at HC
            clear HC
            simp only [Option.map_none, encO]
            go_wp2_with fail
            go_ret
            exact ⟨vv3, vs3, es3, by rw [HQ.out]; rfl, (unhide HX).1, (unhide HX).2, fun q us h => (by rw [HQ.out] at h; cases h)⟩
          | some r =>
            obtain ⟨q, us⟩ := r
            obtain ⟨rfl, hul⟩ := HUS.out q us hm2
            rw [hm2] at HR2 HC
            have HR3 : Hid (R = mLoop (mtch d p) (l.drop (kk + 1)) q (acc ++ us)) := Lib.hid HR2.out
            have gj : ((q : Int) == -1) = false := beq_eq_false_iff_ne.2 (by omega)
            clear hm2 HR2 HUS
            go_wp2_with fail
            refine (unhide HC).mono ?_
            rintro e w3 ⟨vv3, vs3, es3, rfl, hS3, hst3, hvs3⟩
            have hvs4 := hvs3 q us rfl
            subst hvs4
            rw [List.append_assoc] at hS3
            have HX := hide (And.intro hS3 (And.intro (hst2.out.trans hst3) (hP2.out.step hst3)))
            have HV : Hid ((vs ++ (acc ++ us)).length ≤ q) := Lib.hid (by have := hvl2.out; rw [List.length_append, List.length_append] at *; omega)
            clear hS3 hst3 hvs3 HC hul
            simp only [Option.map_some, encO]
            go_wp2_with fail
            go_roundw
            case rel => exact ⟨kk + 1, q, vv3, acc ++ us, es3, by go_num, rfl, by have := hkm2.out; omega, by omega, hjn3, HL3.out, HR3.out, (unhide HX).1, (unhide HX).2.1, (unhide HX).2.2, HV.out⟩
            case measure => have := hkm2.out; simp [intOf]; omega
      · have hkm3 : kk = m := by omega
        subst hkm3
        have HQ : Hid (R = some (iq, acc)) := Lib.hid (by rw [hR.out, List.drop_eq_nil_of_le (by have := HM.out; omega)]; rfl)
        clear hL hR
        go_wp2_with fail
        go_ret
        exact ⟨vv2, vs ++ acc, es2, by rw [HQ.out]; rfl, hS2.out, hst2.out, fun q us h => (by rw [HQ.out] at h; cases h; rfl)⟩
set_option linter.unusedSimpArgs false in
set_option maxRecDepth 100000 in
set_option maxHeartbeats 6400000 in
theorem match_pvar (d : Nat) (g gm : Nat) (p : List Cd) (pA : Option Addr) (n c : Nat) (vv : Value) (vs : List ByteArray) (es : List (ByteArray × Value)) (v : ByteArray) (i : Nat) (w : World)
    (hv : v.size ≤ 281474976710656) (hn8 : p.length ≤ 8192) (num : Int) (ht : p[i]? = some (30, num, 0)) (hp : permL (30, num, 0) = true) (hvl : vs.length ≤ i) (hS : MS g gm p pA n c w vv vs es) :
    Calls Tryz.prog 45 #[.pointer (some ⟨g, 0, none⟩), .int .i64 (i : Int), .string v] w (MPost g gm p pA n c vv vs (mtch (d + 1) p i v) w) := by
  obtain ⟨i0, hi0, hiz0, hiz1, hiz2⟩ := info_parts val_info
  have hE : mtch (d + 1) p i v = some (i + 1, [v]) := by
    show (match p[i]? with | none => none | some c => _) = _
    rw [ht]
    rfl
  have hin : i < p.length := (List.getElem?_eq_some_iff.1 ht).1
  have hnp := hS.len
  obtain ⟨b, off, hAe, hb, x0, x1, x2⟩ := cd_at hS.pat.in_ ht
  dsimp only at x0 x1 x2
  subst hAe
  have hne := hS.ne
  obtain ⟨Av, cv, rfl⟩ := owns_form hS.row
  have hS0 := hS.blk.cell 0
  change w.cell? ⟨g, 0, none⟩ = some (.slice (some ⟨b, off, none⟩) n c) at hS0
  have HSP := Lib.hid (fun w2 v2 vs2 es2 (h : MS g gm p (some ⟨b, off, none⟩) n c w2 v2 vs2 es2) => split_any g gm p (some ⟨b, off, none⟩) n c v2 vs2 es2 v hv (30, num, 0) hp (by show (0 : Int) ≤ 1099511627776; decide) w2 h)
  have hb1 : Below w.heap.size w (w.alloc (.cells #[.int .i64 30, .int .i64 num, .int .i64 0] 27)) := (Below.refl _ w).alloc (Nat.le_refl _) _
  have HB := hide hb1
  have hSa := hS.below hb1
  have hSa1 := hSa.blk.cell 1
  change (w.alloc (.cells #[.int .i64 30, .int .i64 num, .int .i64 0] 27)).cell? ⟨g, 1, none⟩ = some (.slice Av vs.length cv) at hSa1
  have HS := hide hSa
  have hn9 : n ≤ 8192 := by omega
  have hin2 : i < n := by omega
  have hSz : splitR (30, num, 0) v = some [] := rfl
  have HLV : Hid (vs.length ≤ 8192) := Lib.hid (by omega)
  have HL1 : Hid (([Value.string v] : List Value).length = 1 * 1) := Lib.hid rfl
  have hr2 : ((w.alloc (.cells #[.int .i64 30, .int .i64 num, .int .i64 0] 27)).alloc (.cells #[.string v] 23)).ownsRow 0 23 1 (.slice Av vs.length cv) vs.length (vs.map Value.string) := owns_below hSa.row ((Below.refl _ _).alloc (Nat.le_refl _) _)
  have hin3 : InC ((w.alloc (.cells #[.int .i64 30, .int .i64 num, .int .i64 0] 27)).alloc (.cells #[.string v] 23)) (some ⟨w.heap.size + 1, 0, none⟩) [.string v] := by
    have q := new_in (w.alloc (.cells #[.int .i64 30, .int .i64 num, .int .i64 0] 27)) 23 #[.string v]
    have e1 : (w.alloc (.cells #[.int .i64 30, .int .i64 num, .int .i64 0] 27)).heap.size = w.heap.size + 1 := by simp
    rw [e1] at q
    exact q
  have HR2 := hide hr2
  have HIN3 := hide hin3
  have hblk2 := hide (hSa.blk.alloc (.cells #[.string v] 23))
  have hnod2 := hide ((Blk.new w 27 #[.int .i64 30, .int .i64 num, .int .i64 0]).alloc (.cells #[.string v] 23))
  have HNE := hide hne
  have HOL : Hid (∀ b, (Value.slice Av vs.length cv).ownBlock = some b → b < w.heap.size) := hide (fun b h => (hS.row.lt b h).2)
  clear hr2 hin3 hne
  rw [hE]
  rw [hSz] at HSP
  clear hE hv hn8 ht hp hS hb1 hSa hnp hin hSz
  go_enter Tryz.func45, Tryz.ntmps45
  go_wp2_with (at_builtin; refine wpList_app _ rfl _ _ 24 rfl 0 23 i0 _ 1 16 Tryz.underlying24 hi0 hiz0 hiz1 hiz2 rfl (by decide) _ vs.length (vs.map Value.string) rfl (unhide HR2) (some ⟨w.heap.size + 1, 0, none⟩) 1 1 [.string v] rfl HL1.out (unhide HIN3) (one_str v) (by unfold maxLen; omega) (by omega) (Nat.zero_le _) ?_; intro v5 w5 hown5 hgrow5 hor5; obtain ⟨A5, c5, rfl⟩ := owns_form hown5; have hX := (unhide HS).extend ((Below.refl _ _).alloc (Nat.le_refl _) _) hown5 hgrow5 hor5; have HX := hide hX; have kb5 := (unhide hblk2).grown hgrow5 (unhide HNE).2.2.2.1; have q1 := kb5.cell 1; have f1 := kb5.frozen 1; change w5.cell? ⟨g, 1, none⟩ = some (.slice Av vs.length cv) at q1; have hwg : w.heap.size ≠ g := (by have := (unhide HNE).2.1; omega); have kn5 := ((unhide hnod2).grown hgrow5 (fun e => by have := (unhide HOL) _ e.symm; omega)).far (p := ⟨g, 1, none⟩) hwg (.slice A5 (vs.length + 1) c5); have z0 := kn5.cell 0; have z1 := kn5.cell 1; have z2 := kn5.cell 2; change _ = some (Value.int .i64 30) at z0; change _ = some (Value.int .i64 num) at z1; change _ = some (Value.int .i64 0) at z2)
  clear hX hown5 hgrow5 hor5 kb5 kn5 hwg hSa1
  refine (HSP.out _ _ _ es (unhide HX).1).mono ?_
  rintro e w7 ⟨A7, m7, d7, es7, rfl, hl, hS7, hst7⟩
  obtain ⟨hm, _⟩ := hl [] rfl
  obtain rfl : m7 = 0 := hm
  have HY := hide (And.intro hS7 (((MStep.below _ (unhide HB)).trans (unhide HX).2).trans hst7))
  clear hl hS7 hst7 HSP HX z0 z1 z2 q1 f1 x0 x1 x2 HS
  simp only [Option.isSome_some]
  go_wp2_with fail
  go_loopw [1, 45] (fun iv kv wr => kv = .int .i64 0 ∧ iv = .int .i64 ((i : Int) + 1) ∧ Hid (wr = w7)) (fun _ _ _ => 0)
  case atStart => exact ⟨rfl, rfl, rfl⟩
  case round =>
    obtain ⟨rfl, rfl, hw⟩ := hrel
    obtain rfl : w7 = wr := hw.out.symm
    go_wp2_with fail
    go_ret
    exact ⟨_, _, es7, by simp [encO], (unhide HY).1, (unhide HY).2, fun q us h => (by cases h; rfl)⟩
theorem match_up : ∀ d : Nat, MCon d := by
  intro d
  induction d with
  | zero => intro g gm p pA n c vv vs es v i j w _ _ h; cases h
  | succ d ih =>
    intro g gm p pA n c vv vs es v i j w hv hn8 h hvl hS
    unfold pendL at h
    cases ht : p[i]? with
    | none => rw [ht] at h; cases h
    | some t =>
      rw [ht] at h
      simp only at h
      cases hp : permL t with
      | false => rw [hp, if_neg (by decide)] at h; cases h
      | true =>
        rw [hp, if_pos rfl] at h
        by_cases h30 : t.1 = 30
        · obtain ⟨k, num, kids⟩ := t
          simp only at h30
          subst h30
          have hk : kids = 0 := by
            unfold permL at hp
            simp at hp
            exact hp.2
          subst hk
          exact match_pvar d g gm p pA n c vv vs es v i w hv hn8 num ht hp hvl hS
        · exact match_other d ih g gm p pA n c vv vs es v i j w hv hn8 t ht h30 hp h hvl hS

end Go.Proofs.YtdifpemohdnolaaGreat
