/- insert. Conditions: at most 8192 values of at most 2^48 bytes. -/

import Derived.Test.YtdifpemohdnolaaGreatPtJ
namespace Go.Proofs.YtdifpemohdnolaaGreat
open Go.RowKit VM

theorem enc_eq (o : Option Nat) (n : Nat) : (encO o == (n : Int)) = decide (o = some n) := by
  rw [Bool.eq_iff_iff, beq_iff_eq, decide_eq_true_eq]
  cases o with
  | none =>
    constructor
    · intro h
      change (-1 : Int) = (n : Int) at h
      omega
    · intro h; cases h
  | some j =>
    constructor
    · intro h
      change (j : Int) = (n : Int) at h
      rw [show j = n by omega]
    · intro h; cases h; rfl
set_option linter.unusedSimpArgs false in
set_option maxRecDepth 100000 in
set_option maxHeartbeats 6400000 in
theorem isPattern_any (p : List Cd) (A : Option Addr) (n c : Nat) (w : World) (hn : n = p.length) (hn2 : n ≤ 4611686018427387904) (hA : InC w A (p.flatMap cdCells)) :
    Calls Tryz.prog 39 #[.slice A n c] w fun e w' => e = .returned (.bool (isPat p)) ∧ Below w.heap.size w w' := by
  have HC := Lib.hid (fun w hA => pend_up 64 (Nat.le_refl _) p A n c 0 w hn hn2 (Nat.zero_le _) hA)
  have HA := hide hA
  have hE : isPat p = (decide (n ≤ 8192) && (encO (pendL 64 p 0) == (n : Int))) := by rw [enc_eq, hn]; rfl
  rw [hE]
  unfold RetO at HC
  generalize encO (pendL 64 p 0) = z at *
  clear hE hA hn
  by_cases h8 : n ≤ 8192
  · have g8 : decide ((n : Int) ≤ 8192) = true := decide_eq_true (by omega)
    rw [decide_eq_true h8, Bool.true_and]
    obtain ⟨b, hb⟩ : ∃ b, (z == (n : Int)) = b := ⟨_, rfl⟩
    rw [hb]
    have h8i : (n : Int) ≤ 8192 := by omega
    go_enter Tryz.func39, Tryz.ntmps39
    go_wp2_with fail
    refine (HC.out _ (unhide HA)).mono ?_
    rintro e w1 ⟨rfl, hb1⟩
    have HB1 := hide hb1
    clear hb1 HC
    go_wp2_with fail
    go_ret
    exact ⟨rfl, unhide HB1⟩
  · have g8 : decide ((n : Int) ≤ 8192) = false := decide_eq_false (by omega)
    rw [decide_eq_false h8, Bool.false_and]
    have h8i : ¬ (n : Int) ≤ 8192 := by omega
    go_enter Tryz.func39, Tryz.ntmps39
    go_wp2_with fail
    go_ret
    exact ⟨rfl, Below.refl _ _⟩
theorem owns_up {w : World} {B n z : Nat} {e : TypeId} {v : Value} {xs : List Value} (h : w.ownsRow 0 e z v n xs) (hb : ∀ b, v.ownBlock = some b → B ≤ b) : w.ownsRow B e z v n xs := by
  refine ⟨h.1, ?_⟩
  rcases h.2 with q | ⟨g, c, cur, h1, _, h3⟩
  · exact .inl q
  · exact .inr ⟨g, c, cur, h1, hb g (by rw [h1]; rfl), h3⟩
theorem MS.start {p : List Cd} {A : Option Addr} {n c : Nat} {w : World} (hn : n = p.length) (hA : InC w A (p.flatMap cdCells)) :
    MS (w.heap.size + 1) w.heap.size p A n c ((w.alloc (.map #[] 0)).alloc (.cells #[.slice A n c, .slice none 0 0, .map (some w.heap.size)] 75)) (.slice none 0 0) [] [] := by
  refine ⟨?_, (TMap.made w).alloc _, ?_, hn, World.ownsRow_nil _ _ _ _, fun k v h => (by cases h)⟩
  · have q := Blk.new (w.alloc (.map #[] 0)) 75 #[.slice A n c, .slice none 0 0, .map (some w.heap.size)]
    have e1 : (w.alloc (.map #[] 0)).heap.size = w.heap.size + 1 := by simp
    rw [e1] at q
    exact q
  · rcases hA with q | ⟨b, off, e, q1, q2⟩
    · exact .inl q
    · refine .inr ⟨b, off, e, ⟨by simp; omega, by omega, by omega, by simp [Value.ownBlock]⟩, fun i u hu => ?_⟩
      have hb : Below w.heap.size w ((w.alloc (.map #[] 0)).alloc (.cells #[.slice A n c, .slice none 0 0, .map (some w.heap.size)] 75)) := ((Below.refl _ _).alloc (Nat.le_refl _) _).alloc (by simp) _
      exact (hb.cell (p := ⟨b, off + i, none⟩) q1).trans (q2 i u hu)
/-- what Match returns -/
def matchR (p : List Cd) (v : ByteArray) : Option (List ByteArray) := if isPat p = true ∧ valB 32 v = true then (mtch 64 p 0 v).map Prod.snd else none
def MatchPost (w : World) (r : Option (List ByteArray)) (e : Ending) (w' : World) : Prop :=
  ∃ (A : Option Addr) (m d : Nat), e = .returned (.tuple #[.slice A m d, .bool r.isSome]) ∧ ((∀ l, r = some l → m = l.length ∧ m ≤ 8192 ∧ w'.ownsRow w.heap.size 23 1 (.slice A m d) m (l.map Value.string)) ∧ (r = none → m = 0)) ∧ Below w.heap.size w w'
set_option linter.unusedSimpArgs false in
set_option maxRecDepth 100000 in
set_option maxHeartbeats 6400000 in
theorem match_any (p : List Cd) (A : Option Addr) (n c : Nat) (v : ByteArray) (hv : v.size ≤ 281474976710656) (w : World) (hn : n = p.length) (hn2 : n ≤ 4611686018427387904) (hA : InC w A (p.flatMap cdCells)) :
    Calls Tryz.prog 17 #[.slice A n c, .string v] w (MatchPost w (matchR p v)) := by
  have hmm : ∀ (t : TypeId) (w : World), (Instr.makeMap t none).run Tryz.prog w = .ok (.map (some w.heap.size)) (w.alloc (.map #[] 0)) := fun _ _ => rfl
  have HC := Lib.hid (isPattern_any p A n c w hn hn2 hA)
  have HV := Lib.hid (fun w => valid_any v hv w)
  have HA := hide hA
  have HN := Lib.hid hn
  have HE : Hid (matchR p v = if isPat p = true ∧ valB 32 v = true then (mtch 64 p 0 v).map Prod.snd else none) := Lib.hid rfl
  have HP : Hid (isPat p = true → p.length ≤ 8192 ∧ pendL 64 p 0 = some p.length) := Lib.hid (fun h => by
    unfold isPat at h
    rw [Bool.and_eq_true, decide_eq_true_eq, decide_eq_true_eq] at h
    exact h)
  generalize matchR p v = r at *
  clear hA hn
  cases hp : isPat p with
  | false =>
    rw [hp] at HC HE
    have HQ : Hid (r = none) := Lib.hid (by rw [HE.out]; rfl)
    clear hp HE HP
    go_enter Tryz.func17, Tryz.ntmps17
    go_wp2_with fail
    refine HC.out.mono ?_
    rintro e w1 ⟨rfl, hb1⟩
    have HB1 := hide hb1
    clear hb1 HC
    go_wp2_with fail
    go_ret2
    exact ⟨none, 0, 0, by rw [HQ.out]; rfl, ⟨fun l h => (by rw [HQ.out] at h; cases h), fun _ => rfl⟩, unhide HB1⟩
  | true =>
    rw [hp] at HC HE
    obtain ⟨hp1, hp2⟩ := HP.out hp
    have HP1 := Lib.hid hp1
    have HP2 := Lib.hid hp2
    clear HP hp hp1 hp2
    cases hvv : valB 32 v with
    | false =>
      rw [hvv] at HV HE
      have HQ : Hid (r = none) := Lib.hid (by rw [HE.out]; rfl)
      clear hvv HE
      go_enter Tryz.func17, Tryz.ntmps17
      go_wp2_with fail
      refine HC.out.mono ?_
      rintro e w1 ⟨rfl, hb1⟩
      have HB1 := hide hb1
      clear hb1 HC
      go_wp2_with fail
      refine (HV.out _).mono ?_
      rintro e w2 ⟨rfl, hb2⟩
      have HB2 := hide ((unhide HB1).trans (hb2.mono (unhide HB1).size))
      clear hb2
      go_wp2_with fail
      go_ret2
      exact ⟨none, 0, 0, by rw [HQ.out]; rfl, ⟨fun l h => (by rw [HQ.out] at h; cases h), fun _ => rfl⟩, unhide HB2⟩
    | true =>
      rw [hvv] at HV HE
      have HQ : Hid (r = (mtch 64 p 0 v).map Prod.snd) := Lib.hid (by rw [HE.out]; rfl)
      clear hvv HE
      go_enter Tryz.func17, Tryz.ntmps17
      go_wp2_with fail
      refine HC.out.mono ?_
      rintro e w1 ⟨rfl, hb1⟩
      have HB1 := hide hb1
      clear hb1 HC
      go_wp2_with fail
      refine (HV.out _).mono ?_
      rintro e w2 ⟨rfl, hb2⟩
      have HB2 := hide ((unhide HB1).trans (hb2.mono (unhide HB1).size))
      clear hb2
      go_wp2_with fail
      have hS := MS.start (c := c) HN.out ((unhide HA).below (unhide HB2))
      have HB3 := hide (((unhide HB2).alloc (unhide HB2).size (.map #[] 0)).alloc (by have := (unhide HB2).size; simp; omega) (.cells #[.slice A n c, .slice none 0 0, .map (some w2.heap.size)] 75))
      have HM := hide (match_up 64 _ _ p A n c _ [] [] v 0 p.length _ hv HP1.out HP2.out (Nat.le_refl _) hS)
      have HUS := Lib.hid (fun q us (h : mtch 64 p 0 v = some (q, us)) => mtch_end 64 HP2.out h)
      have HZ : Hid (w.heap.size ≤ w2.heap.size) := Lib.hid (unhide HB2).size
      clear hS
      cases hm : mtch 64 p 0 v with
      | none =>
        rw [hm] at HQ HM
        clear hm HUS
        go_wp2_with fail
        refine (unhide HM).mono ?_
        rintro e w3 ⟨vv3, vs3, es3, rfl, hS3, hst3, _⟩
        have HB4 : Hid (Below w.heap.size w w3) := hide ((unhide HB3).trans (hst3.keep.mono (fun k (hk : k < w.heap.size) => ⟨by have := (unhide HB3).size; omega, by have := HZ.out; omega, by have := HZ.out; omega, by simp [Value.ownBlock]⟩)).to_below)
        clear hS3 hst3 HM
        simp only [Option.map_none, encO]
        go_wp2_with fail
        go_ret2
        exact ⟨none, 0, 0, by rw [HQ.out]; rfl, ⟨fun l h => (by rw [HQ.out] at h; cases h), fun _ => rfl⟩, unhide HB4⟩
      | some r =>
        obtain ⟨q, us⟩ := r
        have hul := HUS.out q us hm
        rw [hm] at HQ HM
        have gj : ((q : Int) == -1) = false := beq_eq_false_iff_ne.2 (by omega)
        have HU : Hid (us.length ≤ 8192) := Lib.hid (by have := HP1.out; omega)
        clear hm HUS hul
        go_wp2_with fail
        refine (unhide HM).mono ?_
        rintro e w3 ⟨vv3, vs3, es3, rfl, hS3, hst3, hvs3⟩
        obtain rfl : vs3 = us := hvs3 q us rfl
        have HB4 : Hid (Below w.heap.size w w3) := hide ((unhide HB3).trans (hst3.keep.mono (fun k (hk : k < w.heap.size) => ⟨by have := (unhide HB3).size; omega, by have := HZ.out; omega, by have := HZ.out; omega, by simp [Value.ownBlock]⟩)).to_below)
        have hrow := hS3.row
        obtain ⟨A3, c3, rfl⟩ := owns_form hrow
        have HR := hide (owns_up (B := w.heap.size) hrow (fun b hb => by
          rcases hst3.own b hb with x | x
          · simp [Value.ownBlock] at x
          · have := (unhide HB3).size; omega))
        have hc1 := hS3.blk.cell 1
        change w3.cell? ⟨w2.heap.size + 1, 1, none⟩ = some (.slice A3 vs3.length c3) at hc1
        clear hS3 hst3 hvs3 hrow HM
        simp only [Option.map_some, encO]
        go_wp2_with fail
        go_ret2
        exact ⟨A3, vs3.length, c3, by rw [HQ.out]; rfl, ⟨fun l h => (by rw [HQ.out] at h; cases h; exact ⟨rfl, HU.out, unhide HR⟩), fun h => (by rw [HQ.out] at h; cases h)⟩, unhide HB4⟩

end Go.Proofs.YtdifpemohdnolaaGreat
namespace Go.Proofs.YtdifpemohdnolaaGreat
open Go.RowKit VM

def varsN (p : List Cd) : Nat := (p.filter fun t => decide (t.1 = 30)).length
theorem varsN_take {p : List Cd} {i : Nat} {t : Cd} (h : p[i]? = some t) : varsN (p.take (i + 1)) = varsN (p.take i) + if t.1 = 30 then 1 else 0 := by
  unfold varsN
  rw [List.take_add_one, h, List.filter_append, List.length_append]
  congr 1
  show (List.filter _ [t]).length = _
  by_cases h : t.1 = 30 <;> simp [h]
theorem varsN_le (p : List Cd) (i : Nat) : varsN (p.take i) ≤ i := by
  unfold varsN
  have h1 := List.length_filter_le (fun t : Cd => decide (t.1 = 30)) (p.take i)
  rw [List.length_take] at h1
  omega
set_option linter.unusedSimpArgs false in
set_option maxRecDepth 100000 in
set_option maxHeartbeats 6400000 in
theorem vars_any (p : List Cd) (A : Option Addr) (n c : Nat) (w : World) (hn : n = p.length) (hn2 : n ≤ 4611686018427387904) (hA : InC w A (p.flatMap cdCells)) :
    Calls Tryz.prog 19 #[.slice A n c] w fun e w' => e = .returned (.int .i64 (varsN p : Nat)) ∧ Below w.heap.size w w' := by
  have HA := hide hA
  have HN := Lib.hid hn
  clear hA hn
  go_enter Tryz.func19, Tryz.ntmps19
  go_wp2_with fail
  go_loopw [3, 8] (fun nv iv wr => ∃ i : Nat, iv = .int .i64 i ∧ i ≤ n ∧ nv = .int .i64 (varsN (p.take i) : Nat) ∧ Hid (Below w.heap.size w wr)) (fun _ iv _ => n - (intOf iv).toNat)
  case atStart => exact ⟨0, rfl, by omega, rfl, Below.refl _ _⟩
  case round =>
    obtain ⟨i, rfl, hi, rfl, hB⟩ := hrel
    by_cases hlt : i < n
    · obtain ⟨t, ht⟩ : ∃ t, p[i]? = some t := ⟨_, List.getElem?_eq_getElem (by have := HN.out; omega)⟩
      have hst := varsN_take ht
      have hle := varsN_le p i
      obtain ⟨b, off, hAe, hb, x0, x1, x2⟩ := cd_at ((unhide HA).below hB.out) ht
      subst hAe
      obtain ⟨k, num, kids⟩ := t
      dsimp only at x0 x1 x2 hst
      have HB2 := hide (hB.out.alloc hB.out.size (.cells #[.int .i64 k, .int .i64 num, .int .i64 kids] 27))
      clear ht
      by_cases h30 : k = 30
      · subst h30
        rw [if_pos rfl] at hst
        have HST := Lib.hid hst
        clear hst
        generalize varsN (p.take i) = q at *
        go_wp2_with fail
        go_roundw
        case rel => exact ⟨i + 1, by go_num, by omega, by rw [HST.out]; go_num, unhide HB2⟩
        case measure => simp [intOf]; omega
      · have g30 : (k == 30) = false := beq_eq_false_iff_ne.2 h30
        rw [if_neg h30, Nat.add_zero] at hst
        have HST := Lib.hid hst
        clear hst h30
        generalize varsN (p.take i) = q at *
        go_wp2_with fail
        go_roundw
        case rel => exact ⟨i + 1, by go_num, by omega, by rw [HST.out]; rfl, unhide HB2⟩
        case measure => simp [intOf]; omega
    · have hin : i = n := by omega
      have HT : Hid (varsN (p.take n) = varsN p) := Lib.hid (by rw [HN.out, List.take_length])
      subst hin
      go_wp2_with fail
      go_ret
      exact ⟨by first | rfl | (rw [HT.out]; rfl), hB.out⟩
/-- can a value of its type fail to match the node? -/
def failL (t : Cd) : Bool := !(allL t) && (decide (t.1 ≠ 34) && decide (t.1 ≠ 40))
set_option linter.unusedSimpArgs false in
set_option maxRecDepth 100000 in
set_option maxHeartbeats 6400000 in
theorem canFail_any (t : Cd) (b : Bool) (h : failL t = b) (w : World) :
    Calls Tryz.prog 49 #[.agg #[.int .i64 t.1, .int .i64 t.2.1, .int .i64 t.2.2]] w fun e w' => e = .returned (.bool b) ∧ Below w.heap.size w w' := by
  have HM := Lib.hid (fun w => matchesAll_b t _ rfl w)
  have HF : Hid ((!(allL t) && (!(t.1 == 34) && !(t.1 == 40))) = b) := Lib.hid (by
    rw [← h]
    unfold failL
    by_cases q : t.1 = 34 <;> by_cases r : t.1 = 40 <;> simp [q, r])
  have hb1 : Below w.heap.size w (w.alloc (.cells #[.int .i64 t.1, .int .i64 t.2.1, .int .i64 t.2.2] 27)) := (Below.refl _ w).alloc (Nat.le_refl _) _
  have HB := hide hb1
  clear h hb1
  obtain ⟨k, num, kids⟩ := t
  dsimp only at *
  generalize allL (k, num, kids) = al at *
  have HB2 : Hid (Below w.heap.size w ((w.alloc (.cells #[.int .i64 k, .int .i64 num, .int .i64 kids] 27)).alloc (.cells #[.int .i64 k, .int .i64 num, .int .i64 kids] 27))) := hide ((unhide HB).alloc (by simp) _)
  have k2 := (Blk.new w 27 #[.int .i64 k, .int .i64 num, .int .i64 kids]).alloc (.cells #[.int .i64 k, .int .i64 num, .int .i64 kids] 27)
  have c0 := k2.cell 0
  change _ = some (Value.int .i64 k) at c0
  clear k2
  have HM2 := Lib.hid (HM.out (w.alloc (.cells #[.int .i64 k, .int .i64 num, .int .i64 kids] 27)))
  clear HM
  generalize (w.alloc (.cells #[.int .i64 k, .int .i64 num, .int .i64 kids] 27)).alloc (.cells #[.int .i64 k, .int .i64 num, .int .i64 kids] 27) = W2 at *
  go_enter Tryz.func49, Tryz.ntmps49
  cases al with
  | true =>
    go_wp2_with fail
    refine HM2.out.mono ?_
    rintro e w2 ⟨rfl, rfl⟩
    go_wp2_with fail
    go_ret
    exact ⟨ret_bool HF.out, unhide HB2⟩
  | false =>
    by_cases q : k = 34
    · subst q
      go_wp2_with fail
      refine HM2.out.mono ?_
      rintro e w2 ⟨rfl, rfl⟩
      go_wp2_with fail
      go_ret
      exact ⟨ret_bool HF.out, unhide HB2⟩
    · have g34 : (k == 34) = false := beq_eq_false_iff_ne.2 q
      have g34b : (k != 34) = true := by simpa using q
      rw [g34] at HF
      clear q
      by_cases r : k = 40
      · subst r
        go_wp2_with fail
        refine HM2.out.mono ?_
        rintro e w2 ⟨rfl, rfl⟩
        go_wp2_with fail
        go_ret
        exact ⟨ret_bool HF.out, unhide HB2⟩
      · have g40 : (k == 40) = false := beq_eq_false_iff_ne.2 r
        have g40b : (k != 40) = true := by simpa using r
        rw [g40] at HF
        clear r
        go_wp2_with fail
        refine HM2.out.mono ?_
        rintro e w2 ⟨rfl, rfl⟩
        go_wp2_with fail
        go_ret
        exact ⟨ret_bool HF.out, unhide HB2⟩

end Go.Proofs.YtdifpemohdnolaaGreat
namespace Go.Proofs.YtdifpemohdnolaaGreat
open Go.RowKit VM

/-- where the first node stands that can fail -/
def idxF : List Cd → Nat → Int
  | [], _ => -1
  | t :: r, i => if failL t = true then (i : Int) else idxF r (i + 1)
theorem idxF_step {p : List Cd} {j : Nat} {t : Cd} (h : p[j]? = some t) : idxF (p.drop j) j = if failL t = true then (j : Int) else idxF (p.drop (j + 1)) (j + 1) := by
  have hi : j < p.length := (List.getElem?_eq_some_iff.1 h).1
  rw [List.drop_eq_getElem_cons hi]
  rw [List.getElem?_eq_getElem hi] at h
  rw [Option.some.inj h]; rfl
theorem idxF_any : ∀ (p : List Cd) (i : Nat), decide (0 ≤ idxF p i) = p.any failL
  | [], _ => rfl
  | t :: r, i => by
    unfold idxF
    rw [List.any_cons]
    cases h : failL t with
    | true => rw [if_pos rfl, Bool.true_or]; exact decide_eq_true (by omega)
    | false => rw [if_neg (by decide), Bool.false_or]; exact idxF_any r (i + 1)
set_option linter.unusedSimpArgs false in
set_option maxRecDepth 100000 in
set_option maxHeartbeats 6400000 in
theorem indexF_any (p : List Cd) (A : Option Addr) (n c : Nat) (w : World) (hn : n = p.length) (hn2 : n ≤ 4611686018427387904) (hA : InC w A (p.flatMap cdCells)) :
    Calls Tryz.prog 66 #[.slice A n c, .func (.func 49) #[] #[]] w fun e w' => e = .returned (.int .i64 (idxF p 0)) ∧ Below w.heap.size w w' := by
  have HA := hide hA
  have HN := Lib.hid hn
  obtain ⟨z, hz⟩ : ∃ z, Hid (idxF p 0 = z) := ⟨_, Lib.hid rfl⟩
  rw [hz.out]
  clear hA hn
  go_enter Tryz.func66, Tryz.ntmps66
  go_wp2_with fail
  go_loopw [8] (fun iv wr => ∃ i : Nat, iv = .int .i64 i ∧ i ≤ n ∧ Hid (idxF (p.drop i) i = z) ∧ Hid (Below w.heap.size w wr)) (fun iv _ => n - (intOf iv).toNat)
  case atStart => exact ⟨0, rfl, by omega, hz.out, Below.refl _ _⟩
  case round =>
    obtain ⟨i, rfl, hi, hZ, hB⟩ := hrel
    by_cases hlt : i < n
    · obtain ⟨t, ht⟩ : ∃ t, p[i]? = some t := ⟨_, List.getElem?_eq_getElem (by have := HN.out; omega)⟩
      have hst := (idxF_step ht).symm.trans hZ.out
      obtain ⟨b, off, hAe, hb, x0, x1, x2⟩ := cd_at ((unhide HA).below hB.out) ht
      subst hAe
      clear ht hZ
      cases hf : failL t with
      | true =>
        have HC := Lib.hid (fun w => canFail_any t _ hf w)
        rw [hf, if_pos rfl] at hst
        have HST := Lib.hid hst
        clear hst hf
        obtain ⟨k, num, kids⟩ := t
        dsimp only at x0 x1 x2 HC
        go_wp2_with fail
        refine (HC.out _).mono ?_
        rintro e w2 ⟨rfl, hb2⟩
        have HB2 := hide (hB.out.trans (hb2.mono hB.out.size))
        clear hb2 HC
        go_wp2_with fail
        go_ret
        exact ⟨by rw [← HST.out]; rfl, unhide HB2⟩
      | false =>
        have HC := Lib.hid (fun w => canFail_any t _ hf w)
        rw [hf, if_neg (by decide)] at hst
        have HST := Lib.hid hst
        clear hst hf
        obtain ⟨k, num, kids⟩ := t
        dsimp only at x0 x1 x2 HC
        go_wp2_with fail
        refine (HC.out _).mono ?_
        rintro e w2 ⟨rfl, hb2⟩
        have HB2 := hide (hB.out.trans (hb2.mono hB.out.size))
        clear hb2 HC
        go_wp2_with fail
        go_roundw
        case rel => exact ⟨i + 1, by go_num, by omega, HST.out, unhide HB2⟩
        case measure => simp [intOf]; omega
    · have hin : i = n := by omega
      have HT : Hid (z = -1) := Lib.hid (by rw [← hZ.out, hin, HN.out, List.drop_length]; rfl)
      clear hZ hz
      go_wp2_with fail
      go_ret
      exact ⟨by rw [HT.out]; rfl, hB.out⟩
def irrB (p : List Cd) : Bool := isPat p && !(p.any failL)
set_option linter.unusedSimpArgs false in
set_option maxRecDepth 100000 in
set_option maxHeartbeats 6400000 in
theorem containsF_any (p : List Cd) (A : Option Addr) (n c : Nat) (w : World) (hn : n = p.length) (hn2 : n ≤ 4611686018427387904) (hA : InC w A (p.flatMap cdCells)) :
    Calls Tryz.prog 48 #[.slice A n c, .func (.func 49) #[] #[]] w fun e w' => e = .returned (.bool (p.any failL)) ∧ Below w.heap.size w w' := by
  have HC := Lib.hid (indexF_any p A n c w hn hn2 hA)
  rw [← idxF_any p 0]
  generalize idxF p 0 = z at *
  clear hA hn
  go_enter Tryz.func48, Tryz.ntmps48
  go_wp2_with fail
  refine HC.out.mono ?_
  rintro e w2 ⟨rfl, hb2⟩
  have HB2 := hide hb2
  clear hb2 HC
  go_wp2_with fail
  go_ret
  exact ⟨rfl, unhide HB2⟩
set_option linter.unusedSimpArgs false in
set_option maxRecDepth 100000 in
set_option maxHeartbeats 6400000 in
theorem irrefutable_any (p : List Cd) (A : Option Addr) (n c : Nat) (w : World) (hn : n = p.length) (hn2 : n ≤ 4611686018427387904) (hA : InC w A (p.flatMap cdCells)) :
    Calls Tryz.prog 23 #[.slice A n c] w fun e w' => e = .returned (.bool (irrB p)) ∧ Below w.heap.size w w' := by
  have HC := Lib.hid (isPattern_any p A n c w hn hn2 hA)
  have HF := Lib.hid (fun w hA => containsF_any p A n c w hn hn2 hA)
  have HA := hide hA
  have hE : irrB p = (isPat p && !(p.any failL)) := rfl
  rw [hE]
  generalize p.any failL = fb at *
  generalize isPat p = pb at *
  clear hA hn hE
  cases pb with
  | false =>
    rw [Bool.false_and]
    go_enter Tryz.func23, Tryz.ntmps23
    go_wp2_with fail
    refine HC.out.mono ?_
    rintro e w2 ⟨rfl, hb2⟩
    have HB2 := hide hb2
    clear hb2 HC
    go_wp2_with fail
    go_ret
    exact ⟨rfl, unhide HB2⟩
  | true =>
    rw [Bool.true_and]
    go_enter Tryz.func23, Tryz.ntmps23
    go_wp2_with fail
    refine HC.out.mono ?_
    rintro e w2 ⟨rfl, hb2⟩
    have HB2 := hide hb2
    clear hb2 HC
    go_wp2_with fail
    refine (HF.out _ ((unhide HA).below (unhide HB2))).mono ?_
    rintro e w3 ⟨rfl, hb3⟩
    have HB3 := hide ((unhide HB2).trans (hb3.mono (unhide HB2).size))
    clear hb3 HF
    go_wp2_with fail
    go_ret
    exact ⟨rfl, unhide HB3⟩

end Go.Proofs.YtdifpemohdnolaaGreat
namespace Go.Proofs.YtdifpemohdnolaaGreat
open Go.RowKit VM

theorem totB_bnd {ps : List ByteArray} {B : Nat} (h : ∀ s ∈ ps, s.size ≤ B) : totB ps ≤ ps.length * B := by
  induction ps with
  | nil => exact Nat.zero_le _
  | cons a l ih =>
    have h1 := ih fun s hs => h s (List.mem_cons_of_mem _ hs)
    have h2 := h a (List.mem_cons_self ..)
    unfold totB at h1 ⊢
    rw [List.map_cons, List.sum_cons, List.length_cons, Nat.succ_mul]
    omega
set_option linter.unusedSimpArgs false in
set_option maxRecDepth 100000 in
set_option maxHeartbeats 6400000 in
theorem tooLong_any (l : List ByteArray) (A : Option Addr) (n c : Nat) (w : World) (hn : n = l.length) (hn2 : n ≤ 8192) (hs : ∀ s ∈ l, s.size ≤ 281474976710656) (hA : InC w A (l.map Value.string)) :
    Calls Tryz.prog 40 #[.slice A n c] w fun e w' => e = .returned (.bool (decide (131072 < totB l))) ∧ w = w' := by
  have HA := hide hA
  have HN := Lib.hid hn
  have HS := Lib.hid hs
  clear hA hn hs
  go_enter Tryz.func40, Tryz.ntmps40
  go_wp2_with fail
  go_loopw [3, 8] (fun nv iv wr => ∃ i : Nat, iv = .int .i64 i ∧ i ≤ n ∧ nv = .int .i64 (totB (l.take i) : Nat) ∧ Hid (wr = w)) (fun _ iv _ => n - (intOf iv).toNat)
  case atStart => exact ⟨0, rfl, by omega, rfl, rfl⟩
  case round =>
    obtain ⟨i, rfl, hi, rfl, hw⟩ := hrel
    obtain rfl : w = wr := hw.out.symm
    have hbt := totB_bnd (ps := l.take i) (B := 281474976710656) (fun s hs => HS.out s (List.mem_of_mem_take hs))
    have hlt8 : (l.take i).length ≤ 8192 := by rw [List.length_take]; omega
    have hb2 : totB (l.take i) ≤ 2305843009213693952 := Nat.le_trans hbt (by omega)
    by_cases hlt : i < n
    · obtain ⟨u, hu⟩ : ∃ u, l[i]? = some u := ⟨_, List.getElem?_eq_getElem (by have := HN.out; omega)⟩
      have hsz := HS.out u (List.mem_of_getElem? hu)
      have HST := Lib.hid (totB_step hu)
      obtain ⟨b, off, hAe, hb, x0⟩ := at1s (unhide HA) (i := i) (u := .string u) (by rw [List.getElem?_map, hu]; rfl)
      subst hAe
      clear hu hbt hlt8
      generalize totB (l.take i) = q at *
      go_wp2_with fail
      go_roundw
      case rel => exact ⟨i + 1, by go_num, by omega, by rw [HST.out]; go_num, trivial⟩
      case measure => simp [intOf]; omega
    · have hin : i = n := by omega
      have HT : Hid (totB (l.take n) = totB l) := Lib.hid (by rw [HN.out, List.take_length])
      subst hin
      rw [HT.out] at hb2 ⊢
      clear hbt hlt8 HT
      obtain ⟨q, hq⟩ : ∃ q, Hid (totB l = q) := ⟨_, Lib.hid rfl⟩
      rw [hq.out] at hb2 ⊢
      go_wp2_with fail
      go_ret
      exact ⟨ret_bool (by rw [hq.out, Bool.eq_iff_iff, decide_eq_true_eq, decide_eq_true_eq]; omega), rfl⟩

end Go.Proofs.YtdifpemohdnolaaGreat
namespace Go.Proofs.YtdifpemohdnolaaGreat
open Go.RowKit VM

def insertR (l : List ByteArray) (k : Nat) : ByteArray := if kindM (l.getD k ⟨#[]⟩) = 4 then mkP 4 (l.take k ++ pt (l.getD k ⟨#[]⟩) ++ l.drop (k + 1)) else ⟨#[]⟩
attribute [-go_sem] Go.sliced in
set_option linter.unusedSimpArgs false in
set_option maxRecDepth 100000 in
set_option maxHeartbeats 6400000 in
theorem insert_any (l : List ByteArray) (A : Option Addr) (m d k : Nat) (w : World) (hm : m = l.length) (hm8 : m ≤ 8192) (hmd : m ≤ d) (hk : k < m) (hs : ∀ s ∈ l, s.size ≤ 281474976710656) (hA : InC w A (l.map Value.string)) :
    Calls Tryz.prog 79 #[.slice A m d, .int .i64 (k : Int)] w fun e w' => e = .returned (.string (insertR l k)) ∧ Below w.heap.size w w' := by
  obtain ⟨u, hu⟩ : ∃ u, l[k]? = some u := ⟨_, List.getElem?_eq_getElem (by omega)⟩
  have hg : l.getD k ⟨#[]⟩ = u := by rw [List.getD_eq_getElem?_getD, hu]; rfl
  have hus := hs u (List.mem_of_getElem? hu)
  have HKD := Lib.hid (fun w => pkindM_any u hus w)
  have HPT := Lib.hid (fun w => pparts_any u hus w)
  have HPL := Lib.hid (pt_len u)
  have HSZ := Lib.hid (pt_size48 u)
  have HS := Lib.hid hs
  have HM := Lib.hid hm
  have HMD := Lib.hid hmd
  have HIA := hide hA
  obtain ⟨b, off, hAe, hb, x0⟩ := at1s hA (i := k) (u := .string u) (by rw [List.getElem?_map, hu]; rfl)
  unfold insertR
  rw [hg]
  generalize kindM u = kd at *
  generalize pt u = pu at *
  clear hg hus hs hm hmd hA hu
  subst hAe
  obtain ⟨A, hAA⟩ : ∃ z, Hid ((some ⟨b, off, none⟩ : Option Addr) = z) := ⟨_, Lib.hid rfl⟩
  by_cases h4 : kd = 4
  · subst h4
    rw [if_pos rfl]
    have q5 : k ≤ d := by have := HMD.out; omega
    have gi : IntKind.i64.wrap ((k : Int) + 1) = ((k + 1 : Nat) : Int) := by rw [IntWalk.i64_in _ (by omega)]; simp
    have gv : wrap64 ((k : Int) + 1) = ((k + 1 : Nat) : Int) := by rw [IntWalk.wrap64_in _ (by omega)]; simp
    have HK1 : Hid ((k : Int) + 1 = ((k + 1 : Nat) : Int)) := Lib.hid (by simp)
    obtain ⟨k1, hk1⟩ : ∃ k1, k1 = k + 1 := ⟨_, rfl⟩
    rw [← hk1] at gi gv HK1 ⊢
    have q6 : k1 ≤ m := by omega
    have q7 : k1 ≤ d := by have := HMD.out; omega
    clear hk1
    have hki : (k : Int) < (m : Int) := by omega
    go_enter Tryz.func79, Tryz.ntmps79
    go_wp2_with fail
    refine (HKD.out _).mono ?_
    rintro e w1 ⟨rfl, hb1⟩
    have HB1 := hide hb1
    have y0 := cell_down hb1 x0
    clear hb1 HKD x0
    go_wp2_with fail
    have HIN := hide ((unhide HIA).below (below_drew (unhide HB1)))
    have hbw := hide (below_drew (unhide HB1))
    obtain ⟨A0, HA0⟩ : ∃ z, Hid (z = if d = 0 then (some ⟨b, off, none⟩ : Option Addr) else (some ⟨b, off, none⟩ : Option Addr).map (·.add (0 * 1))) := ⟨_, Lib.hid rfl⟩
    obtain ⟨A1, HA1⟩ : ∃ z, Hid (z = if d = k1 then (some ⟨b, off, none⟩ : Option Addr) else (some ⟨b, off, none⟩ : Option Addr).map (·.add (k1 * 1))) := ⟨_, Lib.hid rfl⟩
    have fd0 : Hid (w1.drew.cell? ⟨b, off + k, none⟩ = some (.string u)) := hide y0
    refine wp_region_noPanic ?_
    refine wp_region_held_drew (S := fun W => W.cell? ⟨b, off + k, none⟩ = some (.string u)) (by kernel_rfl) fd0 (fun _ => ?_)
    generalize w1.drew = wd at *
    try simp only [Act.put, List.setIfInBounds_toArray, List.set_cons_zero, List.set_cons_succ]
    refine wpAnyH_take (i := 0) (oi := { dst := some 11, op := Op.move (Operand.tmp 0), type := 24, pos := "build.go:59", after := #[], guard := none }) (v := ?_) rfl (by kernel_rfl) (by kernel_rfl) (by kernel_rfl) (fun _ _ _ h => h) (Or.inl ⟨by rfl, ?_⟩) fd0 ?_
    rotate_left 1
    · intro w hSw
      try dsimp only at hSw
      go_simp
      first
        | done
        | with_reducible rfl
        | rw [if_neg (by omega)]
    try simp only [Act.put, List.setIfInBounds_toArray, List.set_cons_zero, List.set_cons_succ]
    refine wpAnyH_take (i := 1) (oi := { dst := some 12, op := Op.move (Operand.tmp 1), type := 3, pos := "build.go:59", after := #[], guard := none }) (v := ?_) rfl (by kernel_rfl) (by kernel_rfl) (by kernel_rfl) (fun _ _ _ h => h) (Or.inl ⟨by rfl, ?_⟩) fd0 ?_
    rotate_left 1
    · intro w hSw
      try dsimp only at hSw
      go_simp
      first
        | done
        | with_reducible rfl
        | rw [if_neg (by omega)]
    try simp only [Act.put, List.setIfInBounds_toArray, List.set_cons_zero, List.set_cons_succ]
    refine wpAnyH_take (i := 2) (oi := { dst := some 13, op := Op.slice 24 (Operand.tmp 11) none (some (Operand.tmp 12)) none, type := 24, pos := "build.go:59", after := #[{ on := 0, ground := Ground.data }, { on := 1, ground := Ground.data }], guard := none }) (v := .slice A0 k d) rfl (by kernel_rfl) (by kernel_rfl) (by kernel_rfl) (fun _ _ _ h => h) (Or.inl ⟨by rfl, ?_⟩) fd0 ?_
    · intro w hSw
      go_simp
      rw [HA0.out]
      rfl
    try simp only [Act.put, List.setIfInBounds_toArray, List.set_cons_zero, List.set_cons_succ]
    refine wpAnyH_take (i := 3) (oi := { dst := some 14, op := Op.move (Operand.tmp 0), type := 24, pos := "build.go:59", after := #[], guard := none }) (v := ?_) rfl (by kernel_rfl) (by kernel_rfl) (by kernel_rfl) (fun _ _ _ h => h) (Or.inl ⟨by rfl, ?_⟩) fd0 ?_
    rotate_left 1
    · intro w hSw
      try dsimp only at hSw
      go_simp
      first
        | done
        | with_reducible rfl
        | rw [if_neg (by omega)]
    try simp only [Act.put, List.setIfInBounds_toArray, List.set_cons_zero, List.set_cons_succ]
    refine wpAnyH_take (i := 4) (oi := { dst := some 15, op := Op.move (Operand.tmp 1), type := 3, pos := "build.go:59", after := #[], guard := none }) (v := ?_) rfl (by kernel_rfl) (by kernel_rfl) (by kernel_rfl) (fun _ _ _ h => h) (Or.inl ⟨by rfl, ?_⟩) fd0 ?_
    rotate_left 1
    · intro w hSw
      try dsimp only at hSw
      go_simp
      first
        | done
        | with_reducible rfl
        | rw [if_neg (by omega)]
    try simp only [Act.put, List.setIfInBounds_toArray, List.set_cons_zero, List.set_cons_succ]
    refine wpAnyH_take (i := 5) (oi := { dst := some 16, op := Op.indexAddr 24 (Operand.tmp 14) (Operand.tmp 15), type := 0, pos := "build.go:59", after := #[{ on := 3, ground := Ground.data }, { on := 4, ground := Ground.data }], guard := none }) (v := .pointer (some ⟨b, off + k, none⟩)) rfl (by kernel_rfl) (by kernel_rfl) (by kernel_rfl) (fun _ _ _ h => h) (Or.inl ⟨by rfl, ?_⟩) fd0 ?_
    · intro w hSw
      go_simp
      first
        | done
        | (intro q; omega)
        | rfl
        | simp
    try simp only [Act.put, List.setIfInBounds_toArray, List.set_cons_zero, List.set_cons_succ]
    refine wpAnyH_take (i := 6) (oi := { dst := some 17, op := Op.load 23 (Operand.tmp 16), type := 23, pos := "build.go:59", after := #[{ on := 5, ground := Ground.data }], guard := none }) (v := ?_) rfl (by kernel_rfl) (by kernel_rfl) (by kernel_rfl) (fun _ _ _ h => h) (Or.inl ⟨by rfl, ?_⟩) fd0 ?_
    rotate_left 1
    · intro w hSw
      try dsimp only at hSw
      go_simp
      first
        | done
        | with_reducible rfl
        | rw [if_neg (by omega)]
    try simp only [Act.put, List.setIfInBounds_toArray, List.set_cons_zero, List.set_cons_succ]
    refine wpAnyH_take (i := 8) (oi := { dst := some 19, op := Op.move (Operand.tmp 0), type := 24, pos := "build.go:59", after := #[], guard := none }) (v := ?_) rfl (by kernel_rfl) (by kernel_rfl) (by kernel_rfl) (fun _ _ _ h => h) (Or.inl ⟨by rfl, ?_⟩) fd0 ?_
    rotate_left 1
    · intro w hSw
      try dsimp only at hSw
      go_simp
      first
        | done
        | with_reducible rfl
        | rw [if_neg (by omega)]
    try simp only [Act.put, List.setIfInBounds_toArray, List.set_cons_zero, List.set_cons_succ]
    refine wpAnyH_take (i := 9) (oi := { dst := some 20, op := Op.move (Operand.tmp 1), type := 3, pos := "build.go:59", after := #[], guard := none }) (v := ?_) rfl (by kernel_rfl) (by kernel_rfl) (by kernel_rfl) (fun _ _ _ h => h) (Or.inl ⟨by rfl, ?_⟩) fd0 ?_
    rotate_left 1
    · intro w hSw
      try dsimp only at hSw
      go_simp
      first
        | done
        | with_reducible rfl
        | rw [if_neg (by omega)]
    try simp only [Act.put, List.setIfInBounds_toArray, List.set_cons_zero, List.set_cons_succ]
    refine wpAnyH_take (i := 10) (oi := { dst := some 21, op := Op.binOp BinOp.add 3 (Operand.tmp 20) (Operand.const (Value.int IntKind.i64 1)) 3, type := 3, pos := "build.go:59", after := #[{ on := 9, ground := Ground.data }], guard := none }) (v := .int .i64 (k1 : Int)) rfl (by kernel_rfl) (by kernel_rfl) (by kernel_rfl) (fun _ _ _ h => h) (Or.inl ⟨by rfl, ?_⟩) fd0 ?_
    · intro w hSw
      go_simp
      first
        | done
        | exact HK1.out
        | rfl
        | simp
    try simp only [Act.put, List.setIfInBounds_toArray, List.set_cons_zero, List.set_cons_succ]
    refine wpAnyH_take (i := 11) (oi := { dst := some 22, op := Op.slice 24 (Operand.tmp 19) (some (Operand.tmp 21)) none none, type := 24, pos := "build.go:59", after := #[{ on := 8, ground := Ground.data }, { on := 10, ground := Ground.data }], guard := none }) (v := .slice A1 (m - k1) (d - k1)) rfl (by kernel_rfl) (by kernel_rfl) (by kernel_rfl) (fun _ _ _ h => h) (Or.inl ⟨by rfl, ?_⟩) fd0 ?_
    · intro w hSw
      go_simp
      rw [HA1.out]
      rfl
    try simp only [Act.put, List.setIfInBounds_toArray, List.set_cons_zero, List.set_cons_succ]
    refine wpAnyH_ready (rs := [7]) (by kernel_rfl) (by simp) ?_
    refine AllReadyH.cons (o := { dst := some 18, op := Op.call { callee := Callee.value (Operand.func 92), args := #[Operand.tmp 17], argTypes := #[23] }, type := 24, pos := "build.go:59", after := #[{ on := 6, ground := Ground.data }], guard := none }) rfl (fun K hK => ?_) AllReadyH.nil
    go_simp
    go_at_call 92
    refine (HPT.out _).mono ?_
    rintro e w501 ⟨AP, cp, np, rfl, hnp, hop, hbp⟩
    have HBP := hide ((unhide hbw).trans (hbp.mono (unhide hbw).size))
    have HOP := hide (InC.own hop)
    have HNP := Lib.hid hnp
    have HIP := hide ((unhide HIN).below hbp)
    have fp0 := hide (cell_down hbp (unhide fd0))
    clear hnp hop
    try dsimp only
    refine hK.out _ _ fp0 (fun _ => ?_)
    clear hK K
    try simp only [Act.put, List.setIfInBounds_toArray, List.set_cons_zero, List.set_cons_succ]
    refine wpAnyH_ready (rs := [12]) (by kernel_rfl) (by simp) ?_
    refine AllReadyH.cons (o := { dst := some 23, op := Op.buildSlice 121 3 #[(0, Operand.tmp 13), (1, Operand.tmp 18), (2, Operand.tmp 22)], type := 121, pos := "build.go:59", after := #[{ on := 2, ground := Ground.data }, { on := 7, ground := Ground.data }, { on := 11, ground := Ground.data }], guard := none }) rfl (fun K hK => ?_) AllReadyH.nil
    go_simp
    try dsimp only
    have HB12 := hide ((unhide HBP).alloc (unhide HBP).size (.cells #[.slice A0 k d, .slice AP np cp, .slice A1 (m - k1) (d - k1)] 24))
    have HI12 := hide (new_in w501 24 #[.slice A0 k d, .slice AP np cp, .slice A1 (m - k1) (d - k1)])
    have HN12 := hide ((unhide HIP).alloc (.cells #[.slice A0 k d, .slice AP np cp, .slice A1 (m - k1) (d - k1)] 24))
    have HJ12 := hide ((unhide HOP).alloc (.cells #[.slice A0 k d, .slice AP np cp, .slice A1 (m - k1) (d - k1)] 24))
    have ff0 := hide (cell_down ((Below.refl _ w501).alloc (Nat.le_refl _) (.cells #[.slice A0 k d, .slice AP np cp, .slice A1 (m - k1) (d - k1)] 24)) (unhide fp0))
    obtain ⟨w12, hw12⟩ : ∃ z, z = w501.alloc (.cells #[.slice A0 k d, .slice AP np cp, .slice A1 (m - k1) (d - k1)] 24) := ⟨_, rfl⟩
    rw [← hw12] at HB12 HI12 HN12 HJ12 ff0 ⊢
    clear hw12
    refine hK.out _ _ ff0 (fun _ => ?_)
    clear hK K
    try simp only [Act.put, List.setIfInBounds_toArray, List.set_cons_zero, List.set_cons_succ]
    refine wpAnyH_ready (rs := [13]) (by kernel_rfl) (by simp) ?_
    refine AllReadyH.cons (o := { dst := some 24, op := Op.call { callee := Callee.value (Operand.func 91), args := #[Operand.tmp 23], argTypes := #[121] }, type := 24, pos := "build.go:59", after := #[{ on := 12, ground := Ground.data }, { on := 7, ground := Ground.chain }], guard := none }) rfl (fun K hK => ?_) AllReadyH.nil
    go_simp
    go_at_call 91
    refine (concat3_any (l.take k) pu (l.drop k1) A0 AP A1 (some ⟨w501.heap.size, 0, none⟩) k np (m - k1) d cp (d - k1) 3 w12 (by rw [List.length_take]; have := HM.out; omega) HNP.out (by rw [List.length_drop]; have := HM.out; omega) (by omega) (by have := HNP.out; have := HPL.out; omega) (by omega) (by rw [HA0.out]; have := (unhide HN12).sub (lo := 0) (hi := k) (d := d) (by have := HM.out; have := HMD.out; omega) (by have := HM.out; omega); exact this) (unhide HJ12) (by rw [HA1.out]; have := (unhide HN12).sub (lo := k1) (hi := l.length) (d := d) (by have := HM.out; have := HMD.out; omega) (Nat.le_refl _); rw [List.take_length] at this; exact this) (unhide HI12)).mono ?_
    rintro e w503 ⟨AC, cc, nc, rfl, hnc, hoc, hbc⟩
    have HBC := hide ((unhide HB12).trans (hbc.mono (unhide HB12).size))
    have HOC := hide (InC.own hoc)
    have HNC := Lib.hid hnc
    have fc0 := hide (cell_down hbc (unhide ff0))
    clear hnc hoc
    try dsimp only
    refine hK.out _ _ fc0 (fun _ => ?_)
    clear hK K
    try simp only [Act.put, List.setIfInBounds_toArray, List.set_cons_zero, List.set_cons_succ]
    refine wpAnyH_ready (rs := [14]) (by kernel_rfl) (by simp) ?_
    refine AllReadyH.cons (o := { dst := some 25, op := Op.call { callee := Callee.value (Operand.func 76), args := #[Operand.tmp 24], argTypes := #[24] }, type := 23, pos := "build.go:59", after := #[{ on := 13, ground := Ground.data }, { on := 13, ground := Ground.chain }], guard := none }) rfl (fun K hK => ?_) AllReadyH.nil
    go_simp
    go_at_call 76
    refine (pseq_any (l.take k ++ pu ++ l.drop k1) AC nc cc _ HNC.out (by have := HNC.out; rw [List.length_append, List.length_append, List.length_take, List.length_drop] at this; have := HPL.out; have := HM.out; omega) (fun s hs => by rcases List.mem_append.1 hs with hs | hs; rcases List.mem_append.1 hs with hs | hs; exact HS.out s (List.mem_of_mem_take hs); exact HSZ.out s hs; exact HS.out s (List.mem_of_mem_drop hs)) (unhide HOC)).mono ?_
    rintro e w504 ⟨rfl, hbz⟩
    have HBZ := hide ((unhide HBC).trans (hbz.mono (unhide HBC).size))
    try dsimp only
    refine hK.out _ _ (cell_down hbz (unhide fc0)) (fun _ => ?_)
    clear hK K
    try simp only [Act.put, List.setIfInBounds_toArray, List.set_cons_zero, List.set_cons_succ]
    refine wpAnyH_take (i := 15) (oi := { dst := some 4, op := Op.assign (Operand.tmp 25), type := 23, pos := "build.go:59", after := #[{ on := 14, ground := Ground.data }, { on := 14, ground := Ground.chain }, { on := 0, ground := Ground.phase }, { on := 1, ground := Ground.phase }, { on := 2, ground := Ground.phase }, { on := 3, ground := Ground.phase }, { on := 4, ground := Ground.phase }, { on := 5, ground := Ground.phase }, { on := 6, ground := Ground.phase }, { on := 7, ground := Ground.phase }, { on := 8, ground := Ground.phase }, { on := 9, ground := Ground.phase }, { on := 10, ground := Ground.phase }, { on := 11, ground := Ground.phase }, { on := 12, ground := Ground.phase }, { on := 13, ground := Ground.phase }, { on := 14, ground := Ground.phase }], guard := none }) (v := ?_) rfl (by kernel_rfl) (by kernel_rfl) (by kernel_rfl) (fun _ _ _ h => h) (Or.inl ⟨by rfl, ?_⟩) (cell_down hbz (unhide fc0)) ?_
    rotate_left 1
    · intro w hSw
      try dsimp only at hSw
      go_simp
      first
        | done
        | with_reducible rfl
        | rw [if_neg (by omega)]
    try simp only [Act.put, List.setIfInBounds_toArray, List.set_cons_zero, List.set_cons_succ]
    refine wpAnyH_done (by kernel_rfl) ?_ _
    refine NoPanic.normal ?_
    go_wp2_with fail
    go_ret
    exact ⟨rfl, unhide HBZ⟩
  · rw [if_neg h4]
    have g4 : (kd == 4) = false := beq_eq_false_iff_ne.2 h4
    have g4b : (kd != 4) = true := by simpa using h4
    clear h4
    go_enter Tryz.func79, Tryz.ntmps79
    go_wp2_with fail
    refine (HKD.out _).mono ?_
    rintro e w1 ⟨rfl, hb1⟩
    have HB1 := hide hb1
    clear hb1 HKD
    go_wp2_with fail
    go_ret
    exact ⟨rfl, unhide HB1⟩

end Go.Proofs.YtdifpemohdnolaaGreat
