/- end, fits and Valid: the program reads values as the model does. Condition: at most 1048576 bytes, but for Valid and fits: 2^48. -/
import Derived.Test.YtdifpemohdnolaaGreatVaP
namespace Go.Proofs.YtdifpemohdnolaaGreat
open Go.RowKit VM

theorem u8_ne {k c : UInt8} (h : k ≠ c) : ((k.toNat : Int) == (c.toNat : Int)) = false := beq_eq_false_iff_ne.2 fun q => h (UInt8.toNat_inj.1 (by omega))
set_option maxRecDepth 100000 in
set_option maxHeartbeats 1600000 in
theorem countOK_any (k : UInt8) (n : Nat) (hn : n < 65536) (w : World) : Calls Tryz.prog 107 #[.int .i64 (k.toNat : Int), .int .i64 (n : Int)] w fun e w' => e = .returned (.bool (countOK k n)) ∧ w = w' := by
  by_cases h3 : k = 3
  · subst h3
    go_enter Tryz.func107, Tryz.ntmps107
    go_wp2_with fail
    all_goals
      go_ret
      exact ⟨ret_b (by first | (simp [countOK]; done) | (simp [countOK]; omega) | (rw [Bool.eq_iff_iff]; simp [countOK]; omega)), rfl⟩
  by_cases h6 : k = 6
  · subst h6
    go_enter Tryz.func107, Tryz.ntmps107
    go_wp2_with fail
    all_goals
      go_ret
      exact ⟨ret_b (by first | (simp [countOK]; done) | (simp [countOK]; omega) | (rw [Bool.eq_iff_iff]; simp [countOK]; omega)), rfl⟩
  by_cases h7 : k = 7
  · subst h7
    go_enter Tryz.func107, Tryz.ntmps107
    go_wp2_with fail
    all_goals
      go_ret
      exact ⟨ret_b (by first | (simp [countOK]; done) | (simp [countOK]; omega) | (rw [Bool.eq_iff_iff]; simp [countOK]; omega)), rfl⟩
  by_cases h8 : k = 8
  · subst h8
    go_enter Tryz.func107, Tryz.ntmps107
    go_wp2_with fail
    all_goals
      go_ret
      exact ⟨ret_b (by first | (simp [countOK]; done) | (simp [countOK]; omega) | (rw [Bool.eq_iff_iff]; simp [countOK]; omega)), rfl⟩
  by_cases h9 : k = 9
  · subst h9
    go_enter Tryz.func107, Tryz.ntmps107
    go_wp2_with fail
    all_goals
      go_ret
      exact ⟨ret_b (by first | (simp [countOK]; done) | (simp [countOK]; omega) | (rw [Bool.eq_iff_iff]; simp [countOK]; omega)), rfl⟩
  have e : countOK k n = true := by unfold countOK; rw [if_neg h3, if_neg h6, if_neg h7, if_neg h8, if_neg h9]
  rw [e]
  have g3 : ((k.toNat : Int) == 3) = false := u8_ne h3
  have g6 : ((k.toNat : Int) == 6) = false := u8_ne h6
  have g7 : ((k.toNat : Int) == 7) = false := u8_ne h7
  have g8 : ((k.toNat : Int) == 8) = false := u8_ne h8
  have g9 : ((k.toNat : Int) == 9) = false := u8_ne h9
  clear h3 h6 h7 h8 h9 e
  go_enter Tryz.func107, Tryz.ntmps107
  go_wp2_with fail
  all_goals
    go_ret
    exact ⟨rfl, rfl⟩

/-- which number the head of a function or a process may have -/
theorem headOK_ne {k : UInt8} (h7 : k ≠ 7) (h8 : k ≠ 8) (h9 : k ≠ 9) (x : V) : headOK k x = true := by
  cases x <;> simp [headOK, h7, h8, h9]
theorem wf_int {d : Nat} {l : List UInt8} (h : wf d (.int l) = true) : l.length = 8 := by
  cases d with
  | zero => cases h
  | succ d => unfold wf at h; exact of_decide_eq_true h
set_option maxRecDepth 100000 in
set_option maxHeartbeats 3200000 in
theorem headOK_any (k : UInt8) (d : Nat) (s : ByteArray) (x : V) (hx : wf d x = true) (hs : bs s = enc x) (hb : s.size ≤ 1048576) (w : World) :
    Calls Tryz.prog 108 #[.int .i64 (k.toNat : Int), .string s] w fun e w' => e = .returned (.bool (headOK k x)) ∧ w = w' := by
  obtain ⟨hs0, k0⟩ := enc_first (r := []) hx (by rw [hs, List.append_nil])
  have e1 : s[0] = x.kind := by rw [bs_get s 0 hs0] at k0; exact Option.some.inj k0
  by_cases h7 : k = 7
  · subst h7
    have e : headOK 7 x = ((x.kind.toNat : Int) == 10) := by
      cases x with
      | int l => simp [headOK, V.kind]
      | bool b => simp [headOK, V.kind]
      | name a b => simp [headOK, V.kind]
      | comp k l =>
        have := (kind_comp hx).2.2
        have := u8_ne this
        simp only [V.kind]
        rw [show ((k.toNat : Int) == 10) = false from this]
        simp [headOK]
    rw [e]
    clear hx hs e k0
    generalize x.kind = q at *
    go_enter Tryz.func108, Tryz.ntmps108
    go_wp2_with fail
    all_goals
      go_ret
      exact ⟨rfl, rfl⟩
  by_cases h89 : k = 8 ∨ k = 9
  · by_cases hi : ∃ l, x = .int l
    · obtain ⟨l, rfl⟩ := hi
      obtain ⟨n1, z1⟩ := numV_int (r := []) (wf_int hx) (by rw [hs, List.append_nil]; rfl)
      have HC := Lib.hid (fun w => number_any s 1 k0 z1 hb w)
      have en : signed (numV 1 s) = numL l := by rw [n1]; rfl
      rw [en] at HC
      have e1' : s[0] = 1 := e1
      rcases h89 with rfl | rfl
      · clear hx hs k0 n1 en e1
        have he : headOK 8 (.int l) = decide (0 ≤ numL l ∧ numL l ≤ 65535) := by simp [headOK]
        rw [he]
        clear he
        generalize numL l = z at *
        go_enter Tryz.func108, Tryz.ntmps108
        go_wp2_with (go_at_call 109; refine (HC.out _).mono ?_; rintro e w' ⟨rfl, rfl⟩)
        all_goals
          go_ret
          exact ⟨ret_b (by first | (simp [*]; done) | (simp [*]; omega) | (rw [Bool.eq_iff_iff]; simp [*]; omega)), rfl⟩
      · clear hx hs k0 n1 en e1
        have he : headOK 9 (.int l) = decide (1 ≤ numL l ∧ numL l ≤ 21) := by simp [headOK]
        rw [he]
        clear he
        generalize numL l = z at *
        go_enter Tryz.func108, Tryz.ntmps108
        go_wp2_with (go_at_call 109; refine (HC.out _).mono ?_; rintro e w' ⟨rfl, rfl⟩)
        all_goals
          go_ret
          exact ⟨ret_b (by first | (simp [*]; done) | (simp [*]; omega) | (rw [Bool.eq_iff_iff]; simp [*]; omega)), rfl⟩
    · have hn1 : x.kind ≠ 1 := by
        cases x with
        | int l => exact absurd ⟨l, rfl⟩ hi
        | bool b => show (2 : UInt8) ≠ 1; decide
        | name a b => show (10 : UInt8) ≠ 1; decide
        | comp k l => exact (kind_comp hx).1
      have g1 : ((x.kind.toNat : Int) == 1) = false := u8_ne hn1
      have he : headOK k x = false := by
        cases x with
        | int l => exact absurd ⟨l, rfl⟩ hi
        | bool b => rcases h89 with rfl | rfl <;> rfl
        | name a b => rcases h89 with rfl | rfl <;> rfl
        | comp k l => rcases h89 with rfl | rfl <;> rfl
      rw [he]
      clear hx hs k0 hi hn1 he
      generalize x.kind = q at *
      rcases h89 with rfl | rfl
      all_goals
        go_enter Tryz.func108, Tryz.ntmps108
        go_wp2_with fail
        all_goals
          go_ret
          exact ⟨rfl, rfl⟩
  · have h8 : k ≠ 8 := fun q => h89 (.inl q)
    have h9 : k ≠ 9 := fun q => h89 (.inr q)
    rw [headOK_ne h7 h8 h9]
    have g7 : ((k.toNat : Int) == 7) = false := u8_ne h7
    have g8 : ((k.toNat : Int) == 8) = false := u8_ne h8
    have g9 : ((k.toNat : Int) == 9) = false := u8_ne h9
    clear hx hs k0 e1 h7 h89 h8 h9
    go_enter Tryz.func108, Tryz.ntmps108
    go_wp2_with fail
    go_ret
    exact ⟨rfl, rfl⟩
end Go.Proofs.YtdifpemohdnolaaGreat
namespace Go.Proofs.YtdifpemohdnolaaGreat
open Go.RowKit VM

theorem slen1 (w : World) : Calls Tryz.prog 106 #[.int .i64 1] w fun e w' => e = .returned (.int .i64 9) ∧ w = w' := simpleLength_any 1 w
theorem slen2 (w : World) : Calls Tryz.prog 106 #[.int .i64 2] w fun e w' => e = .returned (.int .i64 2) ∧ w = w' := simpleLength_any 2 w
theorem slen10 (w : World) : Calls Tryz.prog 106 #[.int .i64 10] w fun e w' => e = .returned (.int .i64 3) ∧ w = w' := simpleLength_any 10 w
/-- where the value that is read ends -/
def endD (o : Option (V × List UInt8)) (n : Nat) : Int := match o with
  | some (_, r) => ((n - r.length : Nat) : Int)
  | none => -1
theorem drop_of {s : ByteArray} {p : Nat} {k : UInt8} {r : List UInt8} (h : (bs s).drop p = k :: r) : p < s.size ∧ s.size = p + 1 + r.length ∧ (bs s)[p]? = some k ∧ ∀ i, (bs s)[p + 1 + i]? = r[i]? := by
  have hl := congrArg List.length h
  rw [List.length_drop, bs_size, List.length_cons] at hl
  refine ⟨by omega, by omega, ?_, fun i => ?_⟩
  · rw [← List.head?_drop, h]; rfl
  · have : (bs s)[p + (1 + i)]? = ((bs s).drop p)[1 + i]? := by rw [List.getElem?_drop]
    rw [Nat.add_assoc, this, h, Nat.add_comm 1 i]; rfl
set_option maxRecDepth 100000 in
set_option maxHeartbeats 3200000 in
theorem simpleEnd_any (s : ByteArray) (p : Nat) (k : UInt8) (r : List UInt8) (d : Nat) (hk : simpleB k = true) (h : (bs s).drop p = k :: r) (hb : s.size ≤ 1048576) (w : World) :
    Calls Tryz.prog 94 #[.string s, .int .i64 (p : Int), .int .i64 (k.toNat : Int)] w fun e w' => e = .returned (.int .i64 (endD (dec (d + 1) (k :: r)) s.size)) ∧ w = w' := by
  obtain ⟨h1, h2, h3, h4⟩ := drop_of h
  by_cases k1 : k = 1
  · subst k1
    by_cases hr : 8 ≤ r.length
    · have he : endD (dec (d + 1) (1 :: r)) s.size = ((p + 9 : Nat) : Int) := by
        unfold dec
        rw [if_pos rfl, if_pos hr]
        show ((s.size - (r.drop 8).length : Nat) : Int) = _
        rw [List.length_drop]; congr 1; omega
      rw [he]
      have hle : p + 9 ≤ s.size := by omega
      clear he h h2 h3 h4 hr hk
      go_enter Tryz.func94, Tryz.ntmps94
      go_wp2_with (go_at_call 106; refine (slen1 _).mono ?_; rintro e w' ⟨rfl, rfl⟩)
      all_goals
        go_ret
        exact ⟨rfl, rfl⟩
    · have he : endD (dec (d + 1) (1 :: r)) s.size = -1 := by
        unfold dec
        rw [if_pos rfl, if_neg hr]; rfl
      rw [he]
      have hle : ¬ p + 9 ≤ s.size := by omega
      clear he h h2 h3 h4 hr hk
      go_enter Tryz.func94, Tryz.ntmps94
      go_wp2_with (go_at_call 106; refine (slen1 _).mono ?_; rintro e w' ⟨rfl, rfl⟩)
      all_goals
        go_ret
        exact ⟨rfl, rfl⟩
  by_cases k2 : k = 2
  · subst k2
    cases r with
    | nil =>
      have he : endD (dec (d + 1) [2]) s.size = -1 := by
        unfold dec
        rw [if_neg (by decide), if_pos rfl]; rfl
      rw [he]
      have hle : s.size = p + 1 := by simpa using h2
      clear he h h2 h3 h4 hk
      go_enter Tryz.func94, Tryz.ntmps94
      go_wp2_with (go_at_call 106; refine (slen2 _).mono ?_; rintro e w' ⟨rfl, rfl⟩)
      all_goals
        go_ret
        exact ⟨rfl, rfl⟩
    | cons b r =>
      have hlt : p + 1 < s.size := by simp at h2; omega
      have e1 : s[p + 1]'hlt = b := by
        have := h4 0
        rw [Nat.add_zero, bs_get s (p + 1) hlt] at this
        exact Option.some.inj this
      by_cases hb1 : b.toNat ≤ 1
      · have he : endD (dec (d + 1) (2 :: b :: r)) s.size = ((p + 2 : Nat) : Int) := by
          unfold dec
          rw [if_neg (by decide), if_pos rfl]
          simp only
          rw [if_pos hb1]
          show ((s.size - r.length : Nat) : Int) = _
          simp at h2
          congr 1; omega
        rw [he]
        have g1 : decide ((1 : Int) < (b.toNat : Int)) = false := decide_eq_false (by omega)
        have hle : p + 2 ≤ s.size := by omega
        clear he h h2 h3 h4 hk
        go_enter Tryz.func94, Tryz.ntmps94
        go_wp2_with (go_at_call 106; refine (slen2 _).mono ?_; rintro e w' ⟨rfl, rfl⟩)
        all_goals
          go_ret
          exact ⟨rfl, rfl⟩
      · have he : endD (dec (d + 1) (2 :: b :: r)) s.size = -1 := by
          unfold dec
          rw [if_neg (by decide), if_pos rfl]
          simp only
          rw [if_neg hb1]; rfl
        rw [he]
        have g1 : decide ((1 : Int) < (b.toNat : Int)) = true := decide_eq_true (by omega)
        have hle : p + 2 ≤ s.size := by omega
        clear he h h2 h3 h4 hk
        go_enter Tryz.func94, Tryz.ntmps94
        go_wp2_with (go_at_call 106; refine (slen2 _).mono ?_; rintro e w' ⟨rfl, rfl⟩)
        all_goals
          go_ret
          exact ⟨rfl, rfl⟩
  have k3 : k = 10 := by
    unfold simpleB at hk
    simpa [k1, k2] using hk
  subst k3
  by_cases hr : 2 ≤ r.length
  · have he : endD (dec (d + 1) (10 :: r)) s.size = ((p + 3 : Nat) : Int) := by
      match r, hr with
      | a :: b :: r, _ =>
        unfold dec
        rw [if_neg (by decide), if_neg (by decide), if_pos rfl]
        show ((s.size - r.length : Nat) : Int) = _
        simp at h2
        congr 1; omega
    rw [he]
    have hle : p + 3 ≤ s.size := by omega
    clear he h h2 h3 h4 hr hk k1 k2
    go_enter Tryz.func94, Tryz.ntmps94
    go_wp2_with (go_at_call 106; refine (slen10 _).mono ?_; rintro e w' ⟨rfl, rfl⟩)
    all_goals
      go_ret
      exact ⟨rfl, rfl⟩
  · have he : endD (dec (d + 1) (10 :: r)) s.size = -1 := by
      match r, hr with
      | [], _ => unfold dec; rw [if_neg (by decide), if_neg (by decide), if_pos rfl]; rfl
      | [a], _ => unfold dec; rw [if_neg (by decide), if_neg (by decide), if_pos rfl]; rfl
      | a :: b :: r, hr => exact absurd (by simp) hr
    rw [he]
    have hle : ¬ p + 3 ≤ s.size := by omega
    clear he h h2 h3 h4 hr hk k1 k2
    go_enter Tryz.func94, Tryz.ntmps94
    go_wp2_with (go_at_call 106; refine (slen10 _).mono ?_; rintro e w' ⟨rfl, rfl⟩)
    all_goals
      go_ret
      exact ⟨rfl, rfl⟩

end Go.Proofs.YtdifpemohdnolaaGreat
namespace Go.Proofs.YtdifpemohdnolaaGreat
open Go.RowKit VM

def endL (o : Option (List UInt8)) (n : Nat) : Int := match o with
  | some r => ((n - r.length : Nat) : Int)
  | none => -1
theorem dec_comp (d : Nat) (k a b : UInt8) (r : List UInt8) (hc : isComp k = true) (N : Nat) :
    endD (dec (d + 1) (k :: a :: b :: r)) N = if countOK k (u16 a b) = true then endL (lp (ord d) (dec d) k (u16 a b) 0 none r) N else -1 := by
  have hk : k ≠ 1 ∧ k ≠ 2 ∧ k ≠ 10 := by
    unfold isComp at hc
    rw [decide_eq_true_eq] at hc
    refine ⟨?_, ?_, ?_⟩ <;> (rintro rfl; simp at hc)
  unfold dec
  rw [if_neg hk.1, if_neg hk.2.1, if_neg hk.2.2, if_pos hc]
  simp only
  rw [lp_all]
  cases h : decs (dec d) (u16 a b) r with
  | none => simp only; split <;> rfl
  | some q =>
    obtain ⟨l, r2⟩ := q
    simp only
    have hl : l.length = u16 a b := (decs_ok (p := wf d) (dec_ok d) _ _ _ _ h).2.1
    unfold parted
    rw [hl]
    cases countOK k (u16 a b) with
    | false => simp [endD]
    | true =>
      rw [Bool.true_and, if_pos rfl]
      split <;> rfl
def EndCon (d : Nat) : Prop := ∀ (s : ByteArray) (p : Nat) (w : World), s.size ≤ 1048576 → p ≤ 2097152 →
  Calls Tryz.prog 80 #[.string s, .int .i64 (p : Int), .int .i64 (d : Int)] w fun e w' => e = .returned (.int .i64 (endD (dec d ((bs s).drop p)) s.size)) ∧ Below w.heap.size w w'
def lastB : Option V → List UInt8
  | none => []
  | some u => enc u
theorem bs_window (s : ByteArray) (a b : Nat) : bs (s.extract a b) = ((bs s).drop a).take (b - a) := Go.Lib.extract_data s a b
theorem isE_of {s : ByteArray} (h : bs s = []) : s.toList.isEmpty = true := by
  rw [ByteArray.toList_eq]
  show (bs s).isEmpty = true
  rw [h]; rfl
theorem isE_not {s : ByteArray} (h : bs s ≠ []) : s.toList.isEmpty = false := by
  rw [ByteArray.toList_eq]
  show (bs s).isEmpty = false
  cases hb : bs s with
  | nil => exact absurd hb h
  | cons => rfl
theorem lp_step {f : V → V → Int} {rd : List UInt8 → Option (V × List UInt8)} {k : UInt8} {n i : Nat} {last : Option V} {s : List UInt8} {v : V} {r : List UInt8} (h : rd s = some (v, r)) :
    lp f rd k (n + 1) i last s = if (i = 0 ∧ headOK k v = false) then none else if cmpAt k i = true then (if okAfter f last v = true then lp f rd k n (i + 1) (some v) r else none) else lp f rd k n (i + 1) last r := by
  conv => lhs; unfold lp
  rw [h]
theorem lp_none {f : V → V → Int} {rd : List UInt8 → Option (V × List UInt8)} {k : UInt8} {n i : Nat} {last : Option V} {s : List UInt8} (h : rd s = none) : lp f rd k (n + 1) i last s = none := by
  conv => lhs; unfold lp
  rw [h]

set_option linter.unusedSimpArgs false in
set_option maxRecDepth 100000 in
set_option maxHeartbeats 12800000 in
theorem ce_any (d : Nat) (ih : EndCon d) (hd : d ≤ 1000) (s : ByteArray) (p : Nat) (k a b : UInt8) (r : List UInt8) (h : (bs s).drop p = k :: a :: b :: r) (hc : isComp k = true) (hb : s.size ≤ 1048576) (w : World) :
    Calls Tryz.prog 95 #[.string s, .int .i64 (p : Int), .int .i64 ((d + 1 : Nat) : Int)] w fun e w' => e = .returned (.int .i64 (endD (dec (d + 1) (k :: a :: b :: r)) s.size)) ∧ Below w.heap.size w w' := by
  obtain ⟨h1, h2, h3, h4⟩ := drop_of h
  rw [dec_comp d k a b r hc s.size]
  have HIH := Lib.hid ih
  have hp3 : p + 3 ≤ s.size := by simp at h2; omega
  have e1 : s[p]'h1 = k := by rw [bs_get s p h1] at h3; exact Option.some.inj h3
  have hz : (s.extract p s.size).size ≤ 1048576 ∧ 3 ≤ (s.extract p s.size).size := by
    have := congrArg List.length (bs_extract s p)
    rw [bs_size, List.length_drop, bs_size] at this
    omega
  have HC := Lib.hid (fun w => count_any (s.extract p s.size) a b hz.2 (by rw [bs_extract, h]; rfl) (by rw [bs_extract, h]; rfl) w)
  have hn := u16_lt a b
  have hd3 : (bs s).drop (p + 3) = r := by rw [← List.drop_drop, h]; rfl
  generalize u16 a b = n at *
  have HK := Lib.hid (fun w => countOK_any k n hn w)
  have wk : wrap64 (k.toNat : Int) = (k.toNat : Int) := IntWalk.wrap64_in _ (by have := k.toNat_lt; omega)
  have HD3 := Lib.hid hd3
  have HISC := Lib.hid hc
  clear ih h h2 h3 h4 hd3 hz hc
  cases hco : countOK k n
  · rw [if_neg (by simp)]
    rw [hco] at HK
    clear hco
    go_enter Tryz.func95, Tryz.ntmps95
    go_wp2_with fail
    have HBd : Hid (Below w.heap.size w w.drew) := below_drew (Below.refl _ _)
    refine wp_region_noPanic ?_
    refine wp_region_held_drew (S := fun W => True) (by kernel_rfl) trivial (fun _ => ?_)
    generalize w.drew = wd at *
    try simp only [Act.put, List.setIfInBounds_toArray, List.set_cons_zero, List.set_cons_succ]
    refine wpAnyH_take (i := 0) (oi := { dst := some 13, op := Op.move (Operand.tmp 0), type := 23, pos := "encoding.go:117", after := #[], guard := none }) (v := ?_) rfl (by kernel_rfl) (by kernel_rfl) (by kernel_rfl) (fun _ _ _ h => h) (Or.inl ⟨by rfl, ?_⟩) trivial ?_
    rotate_left 1
    · intro w hSw
      try dsimp only at hSw
      go_simp
      first
        | done
        | with_reducible rfl
        | rw [if_neg (by omega)]
    try simp only [Act.put, List.setIfInBounds_toArray, List.set_cons_zero, List.set_cons_succ]
    refine wpAnyH_take (i := 1) (oi := { dst := some 14, op := Op.move (Operand.tmp 1), type := 3, pos := "encoding.go:117", after := #[], guard := none }) (v := ?_) rfl (by kernel_rfl) (by kernel_rfl) (by kernel_rfl) (fun _ _ _ h => h) (Or.inl ⟨by rfl, ?_⟩) trivial ?_
    rotate_left 1
    · intro w hSw
      try dsimp only at hSw
      go_simp
      first
        | done
        | with_reducible rfl
        | rw [if_neg (by omega)]
    try simp only [Act.put, List.setIfInBounds_toArray, List.set_cons_zero, List.set_cons_succ]
    refine wpAnyH_take (i := 2) (oi := { dst := some 15, op := Op.index 23 (Operand.tmp 13) (Operand.tmp 14), type := 5, pos := "encoding.go:117", after := #[{ on := 0, ground := Ground.data }, { on := 1, ground := Ground.data }], guard := none }) (v := ?_) rfl (by kernel_rfl) (by kernel_rfl) (by kernel_rfl) (fun _ _ _ h => h) (Or.inl ⟨by rfl, ?_⟩) trivial ?_
    rotate_left 1
    · intro w hSw
      try dsimp only at hSw
      go_simp
      first
        | done
        | with_reducible rfl
        | rw [if_neg (by omega)]
    try simp only [Act.put, List.setIfInBounds_toArray, List.set_cons_zero, List.set_cons_succ]
    refine wpAnyH_take (i := 3) (oi := { dst := some 16, op := Op.convert 5 3 (Operand.tmp 15), type := 3, pos := "encoding.go:117", after := #[{ on := 2, ground := Ground.data }], guard := none }) (v := .int .i64 (k.toNat : Int)) rfl (by kernel_rfl) (by kernel_rfl) (by kernel_rfl) (fun _ _ _ h => h) (Or.inl ⟨by rfl, ?_⟩) trivial ?_
    · intro w hSw
      go_simp
      exact IntWalk.i64_in _ (by have := k.toNat_lt; omega)
    try simp only [Act.put, List.setIfInBounds_toArray, List.set_cons_zero, List.set_cons_succ]
    refine wpAnyH_take (i := 4) (oi := { dst := some 17, op := Op.move (Operand.tmp 0), type := 23, pos := "encoding.go:117", after := #[], guard := none }) (v := ?_) rfl (by kernel_rfl) (by kernel_rfl) (by kernel_rfl) (fun _ _ _ h => h) (Or.inl ⟨by rfl, ?_⟩) trivial ?_
    rotate_left 1
    · intro w hSw
      try dsimp only at hSw
      go_simp
      first
        | done
        | with_reducible rfl
        | rw [if_neg (by omega)]
    try simp only [Act.put, List.setIfInBounds_toArray, List.set_cons_zero, List.set_cons_succ]
    refine wpAnyH_take (i := 5) (oi := { dst := some 18, op := Op.move (Operand.tmp 1), type := 3, pos := "encoding.go:117", after := #[], guard := none }) (v := ?_) rfl (by kernel_rfl) (by kernel_rfl) (by kernel_rfl) (fun _ _ _ h => h) (Or.inl ⟨by rfl, ?_⟩) trivial ?_
    rotate_left 1
    · intro w hSw
      try dsimp only at hSw
      go_simp
      first
        | done
        | with_reducible rfl
        | rw [if_neg (by omega)]
    try simp only [Act.put, List.setIfInBounds_toArray, List.set_cons_zero, List.set_cons_succ]
    refine wpAnyH_take (i := 6) (oi := { dst := some 19, op := Op.slice 23 (Operand.tmp 17) (some (Operand.tmp 18)) none none, type := 23, pos := "encoding.go:117", after := #[{ on := 4, ground := Ground.data }, { on := 5, ground := Ground.data }], guard := none }) (v := .string (s.extract p s.size)) rfl (by kernel_rfl) (by kernel_rfl) (by kernel_rfl) (fun _ _ _ h => h) (Or.inl ⟨by rfl, ?_⟩) trivial ?_
    · intro w hSw
      go_simp
      first | done | (intro hc; omega) | rw [if_pos (by omega)]
    try simp only [Act.put, List.setIfInBounds_toArray, List.set_cons_zero, List.set_cons_succ]
    refine wpAnyH_ready (rs := [7]) (by kernel_rfl) (by simp) ?_
    refine AllReadyH.cons (o := { dst := some 20, op := Op.call { callee := Callee.value (Operand.func 105), args := #[Operand.tmp 19], argTypes := #[23] }, type := 3, pos := "encoding.go:117", after := #[{ on := 6, ground := Ground.data }], guard := none }) rfl (fun K hK => ?_) AllReadyH.nil
    go_simp
    go_at_call 105
    refine (HC.out wd).mono ?_
    rintro e w501 ⟨rfl, q1, rfl⟩
    have HB1 := hide (below_drewN (unhide HBd) q1)
    try dsimp only
    refine hK.out _ _ trivial (fun _ => ?_)
    clear hK K
    try simp only [Act.put, List.setIfInBounds_toArray, List.set_cons_zero, List.set_cons_succ]
    refine wpAnyH_take (i := 8) (oi := { dst := some 7, op := Op.assign (Operand.tmp 16), type := 3, pos := "encoding.go:117", after := #[{ on := 3, ground := Ground.data }, { on := 7, ground := Ground.chain }, { on := 0, ground := Ground.phase }, { on := 1, ground := Ground.phase }, { on := 2, ground := Ground.phase }, { on := 3, ground := Ground.phase }, { on := 4, ground := Ground.textOnly Departure.lateStores }, { on := 5, ground := Ground.textOnly Departure.lateStores }, { on := 6, ground := Ground.textOnly Departure.lateStoresUnsure }, { on := 7, ground := Ground.textOnly Departure.lateStoresUnsure }], guard := none }) (v := ?_) rfl (by kernel_rfl) (by kernel_rfl) (by kernel_rfl) (fun _ _ _ h => h) (Or.inl ⟨by rfl, ?_⟩) trivial ?_
    rotate_left 1
    · intro w hSw
      try dsimp only at hSw
      go_simp
      first
        | done
        | with_reducible rfl
        | rw [if_neg (by omega)]
    try simp only [Act.put, List.setIfInBounds_toArray, List.set_cons_zero, List.set_cons_succ]
    refine wpAnyH_take (i := 9) (oi := { dst := some 8, op := Op.assign (Operand.tmp 20), type := 3, pos := "encoding.go:117", after := #[{ on := 7, ground := Ground.data }, { on := 8, ground := Ground.chain }, { on := 0, ground := Ground.phase }, { on := 1, ground := Ground.phase }, { on := 2, ground := Ground.phase }, { on := 3, ground := Ground.phase }, { on := 4, ground := Ground.phase }, { on := 5, ground := Ground.phase }, { on := 6, ground := Ground.phase }, { on := 7, ground := Ground.phase }, { on := 8, ground := Ground.phase }], guard := none }) (v := ?_) rfl (by kernel_rfl) (by kernel_rfl) (by kernel_rfl) (fun _ _ _ h => h) (Or.inl ⟨by rfl, ?_⟩) trivial ?_
    rotate_left 1
    · intro w hSw
      try dsimp only at hSw
      go_simp
      first
        | done
        | with_reducible rfl
        | rw [if_neg (by omega)]
    try simp only [Act.put, List.setIfInBounds_toArray, List.set_cons_zero, List.set_cons_succ]
    refine wpAnyH_done (by kernel_rfl) ?_ _
    refine NoPanic.normal ?_
    generalize wd.drewN q1 = w1 at *
    clear HBd
    go_wp2_with fail
    refine (HK.out _).mono ?_
    rintro e w2 ⟨rfl, rfl⟩
    go_wp2_with fail
    go_ret
    exact ⟨rfl, unhide HB1⟩
  rw [if_pos rfl]
  rw [hco] at HK
  clear hco
  go_enter Tryz.func95, Tryz.ntmps95
  go_wp2_with fail
  have HBd : Hid (Below w.heap.size w w.drew) := below_drew (Below.refl _ _)
  refine wp_region_noPanic ?_
  refine wp_region_held_drew (S := fun W => True) (by kernel_rfl) trivial (fun _ => ?_)
  generalize w.drew = wd at *
  try simp only [Act.put, List.setIfInBounds_toArray, List.set_cons_zero, List.set_cons_succ]
  refine wpAnyH_take (i := 0) (oi := { dst := some 13, op := Op.move (Operand.tmp 0), type := 23, pos := "encoding.go:117", after := #[], guard := none }) (v := ?_) rfl (by kernel_rfl) (by kernel_rfl) (by kernel_rfl) (fun _ _ _ h => h) (Or.inl ⟨by rfl, ?_⟩) trivial ?_
  rotate_left 1
  · intro w hSw
    try dsimp only at hSw
    go_simp
    first
      | done
      | with_reducible rfl
      | rw [if_neg (by omega)]
  try simp only [Act.put, List.setIfInBounds_toArray, List.set_cons_zero, List.set_cons_succ]
  refine wpAnyH_take (i := 1) (oi := { dst := some 14, op := Op.move (Operand.tmp 1), type := 3, pos := "encoding.go:117", after := #[], guard := none }) (v := ?_) rfl (by kernel_rfl) (by kernel_rfl) (by kernel_rfl) (fun _ _ _ h => h) (Or.inl ⟨by rfl, ?_⟩) trivial ?_
  rotate_left 1
  · intro w hSw
    try dsimp only at hSw
    go_simp
    first
      | done
      | with_reducible rfl
      | rw [if_neg (by omega)]
  try simp only [Act.put, List.setIfInBounds_toArray, List.set_cons_zero, List.set_cons_succ]
  refine wpAnyH_take (i := 2) (oi := { dst := some 15, op := Op.index 23 (Operand.tmp 13) (Operand.tmp 14), type := 5, pos := "encoding.go:117", after := #[{ on := 0, ground := Ground.data }, { on := 1, ground := Ground.data }], guard := none }) (v := ?_) rfl (by kernel_rfl) (by kernel_rfl) (by kernel_rfl) (fun _ _ _ h => h) (Or.inl ⟨by rfl, ?_⟩) trivial ?_
  rotate_left 1
  · intro w hSw
    try dsimp only at hSw
    go_simp
    first
      | done
      | with_reducible rfl
      | rw [if_neg (by omega)]
  try simp only [Act.put, List.setIfInBounds_toArray, List.set_cons_zero, List.set_cons_succ]
  refine wpAnyH_take (i := 3) (oi := { dst := some 16, op := Op.convert 5 3 (Operand.tmp 15), type := 3, pos := "encoding.go:117", after := #[{ on := 2, ground := Ground.data }], guard := none }) (v := .int .i64 (k.toNat : Int)) rfl (by kernel_rfl) (by kernel_rfl) (by kernel_rfl) (fun _ _ _ h => h) (Or.inl ⟨by rfl, ?_⟩) trivial ?_
  · intro w hSw
    go_simp
    exact IntWalk.i64_in _ (by have := k.toNat_lt; omega)
  try simp only [Act.put, List.setIfInBounds_toArray, List.set_cons_zero, List.set_cons_succ]
  refine wpAnyH_take (i := 4) (oi := { dst := some 17, op := Op.move (Operand.tmp 0), type := 23, pos := "encoding.go:117", after := #[], guard := none }) (v := ?_) rfl (by kernel_rfl) (by kernel_rfl) (by kernel_rfl) (fun _ _ _ h => h) (Or.inl ⟨by rfl, ?_⟩) trivial ?_
  rotate_left 1
  · intro w hSw
    try dsimp only at hSw
    go_simp
    first
      | done
      | with_reducible rfl
      | rw [if_neg (by omega)]
  try simp only [Act.put, List.setIfInBounds_toArray, List.set_cons_zero, List.set_cons_succ]
  refine wpAnyH_take (i := 5) (oi := { dst := some 18, op := Op.move (Operand.tmp 1), type := 3, pos := "encoding.go:117", after := #[], guard := none }) (v := ?_) rfl (by kernel_rfl) (by kernel_rfl) (by kernel_rfl) (fun _ _ _ h => h) (Or.inl ⟨by rfl, ?_⟩) trivial ?_
  rotate_left 1
  · intro w hSw
    try dsimp only at hSw
    go_simp
    first
      | done
      | with_reducible rfl
      | rw [if_neg (by omega)]
  try simp only [Act.put, List.setIfInBounds_toArray, List.set_cons_zero, List.set_cons_succ]
  refine wpAnyH_take (i := 6) (oi := { dst := some 19, op := Op.slice 23 (Operand.tmp 17) (some (Operand.tmp 18)) none none, type := 23, pos := "encoding.go:117", after := #[{ on := 4, ground := Ground.data }, { on := 5, ground := Ground.data }], guard := none }) (v := .string (s.extract p s.size)) rfl (by kernel_rfl) (by kernel_rfl) (by kernel_rfl) (fun _ _ _ h => h) (Or.inl ⟨by rfl, ?_⟩) trivial ?_
  · intro w hSw
    go_simp
    first | done | (intro hc; omega) | rw [if_pos (by omega)]
  try simp only [Act.put, List.setIfInBounds_toArray, List.set_cons_zero, List.set_cons_succ]
  refine wpAnyH_ready (rs := [7]) (by kernel_rfl) (by simp) ?_
  refine AllReadyH.cons (o := { dst := some 20, op := Op.call { callee := Callee.value (Operand.func 105), args := #[Operand.tmp 19], argTypes := #[23] }, type := 3, pos := "encoding.go:117", after := #[{ on := 6, ground := Ground.data }], guard := none }) rfl (fun K hK => ?_) AllReadyH.nil
  go_simp
  go_at_call 105
  refine (HC.out wd).mono ?_
  rintro e w502 ⟨rfl, q1, rfl⟩
  have HB1 := hide (below_drewN (unhide HBd) q1)
  try dsimp only
  refine hK.out _ _ trivial (fun _ => ?_)
  clear hK K
  try simp only [Act.put, List.setIfInBounds_toArray, List.set_cons_zero, List.set_cons_succ]
  refine wpAnyH_take (i := 8) (oi := { dst := some 7, op := Op.assign (Operand.tmp 16), type := 3, pos := "encoding.go:117", after := #[{ on := 3, ground := Ground.data }, { on := 7, ground := Ground.chain }, { on := 0, ground := Ground.phase }, { on := 1, ground := Ground.phase }, { on := 2, ground := Ground.phase }, { on := 3, ground := Ground.phase }, { on := 4, ground := Ground.textOnly Departure.lateStores }, { on := 5, ground := Ground.textOnly Departure.lateStores }, { on := 6, ground := Ground.textOnly Departure.lateStoresUnsure }, { on := 7, ground := Ground.textOnly Departure.lateStoresUnsure }], guard := none }) (v := ?_) rfl (by kernel_rfl) (by kernel_rfl) (by kernel_rfl) (fun _ _ _ h => h) (Or.inl ⟨by rfl, ?_⟩) trivial ?_
  rotate_left 1
  · intro w hSw
    try dsimp only at hSw
    go_simp
    first
      | done
      | with_reducible rfl
      | rw [if_neg (by omega)]
  try simp only [Act.put, List.setIfInBounds_toArray, List.set_cons_zero, List.set_cons_succ]
  refine wpAnyH_take (i := 9) (oi := { dst := some 8, op := Op.assign (Operand.tmp 20), type := 3, pos := "encoding.go:117", after := #[{ on := 7, ground := Ground.data }, { on := 8, ground := Ground.chain }, { on := 0, ground := Ground.phase }, { on := 1, ground := Ground.phase }, { on := 2, ground := Ground.phase }, { on := 3, ground := Ground.phase }, { on := 4, ground := Ground.phase }, { on := 5, ground := Ground.phase }, { on := 6, ground := Ground.phase }, { on := 7, ground := Ground.phase }, { on := 8, ground := Ground.phase }], guard := none }) (v := ?_) rfl (by kernel_rfl) (by kernel_rfl) (by kernel_rfl) (fun _ _ _ h => h) (Or.inl ⟨by rfl, ?_⟩) trivial ?_
  rotate_left 1
  · intro w hSw
    try dsimp only at hSw
    go_simp
    first
      | done
      | with_reducible rfl
      | rw [if_neg (by omega)]
  try simp only [Act.put, List.setIfInBounds_toArray, List.set_cons_zero, List.set_cons_succ]
  refine wpAnyH_done (by kernel_rfl) ?_ _
  refine NoPanic.normal ?_
  generalize wd.drewN q1 = w1 at *
  clear HBd
  go_wp2_with fail
  refine (HK.out _).mono ?_
  rintro e w2 ⟨rfl, rfl⟩
  go_wp2_with fail
  clear HK HC
  go_loopw [1, 9, 28] (fun av lv iv wr => ∃ (i q : Nat) (last : Option V) (lb : ByteArray), iv = .int .i64 i ∧ av = .int .i64 q ∧ lv = .string lb ∧ i ≤ n ∧ q ≤ s.size ∧ lb.size ≤ 1048576 ∧ Hid (bs lb = lastB last) ∧ Hid (∀ u, last = some u → wf d u = true) ∧ Hid (lp (ord d) (dec d) k n 0 none r = lp (ord d) (dec d) k (n - i) i last ((bs s).drop q)) ∧ Hid (Below w.heap.size w wr)) (fun _ _ iv _ => n - (intOf iv).toNat)
  case atStart => exact ⟨0, p + 3, none, ⟨#[]⟩, rfl, by go_num, rfl, by omega, by omega, by decide, rfl, (fun u q => (by cases q)), (by rw [HD3.out]; rfl), unhide HB1⟩
  case round =>
    obtain ⟨i, q, last, lb, rfl, rfl, rfl, hi, hq, hlb, hL, hW, hP, hB⟩ := hrel
    by_cases hil : i < n
    · have hni : n - i = (n - (i + 1)) + 1 := by omega
      have HE := Lib.hid (fun w => HIH.out s q w hb (by omega))
      have hP1 := hP.out
      rw [hni] at hP1
      cases hdec : dec d ((bs s).drop q) with
      | none =>
        rw [lp_none hdec] at hP1
        rw [hdec] at HE
        have HPN := Lib.hid hP1
        clear hP hP1 hdec
        go_wp2_with fail
        refine (HE.out _).mono ?_
        rintro e w3 ⟨rfl, hb3⟩
        have HB3 := hide (hB.out.trans (hb3.mono hB.out.size))
        clear hb3
        go_wp2_with fail
        go_ret
        exact ⟨by rw [HPN.out]; rfl, unhide HB3⟩
      | some z =>
        obtain ⟨v, rr⟩ := z
        obtain ⟨g1, g2⟩ := dec_ok d _ _ _ hdec
        rw [lp_step hdec] at hP1
        rw [hdec] at HE
        have hv0 := enc_pos v g2
        have hlen := congrArg List.length g1
        rw [List.length_drop, bs_size, List.length_append] at hlen
        obtain ⟨st, hst⟩ : ∃ st, st = s.size - rr.length := ⟨_, rfl⟩
        have hst1 : q < st := by omega
        have hst2 : st ≤ s.size := by omega
        have hE2 : endD (some (v, rr)) s.size = (st : Int) := by rw [hst]; rfl
        rw [hE2] at HE
        have HPT : Hid (bs (s.extract q st) = enc v) := Lib.hid (by
          rw [bs_window, g1]
          exact List.take_left' (by omega))
        have HDR : Hid ((bs s).drop st = rr) := Lib.hid (by
          rw [show st = q + (enc v).length by omega, ← List.drop_drop, g1, List.drop_left])
        have hpz : (s.extract q st).size ≤ 1048576 := by rw [← bs_size, HPT.out]; omega
        have HWV := Lib.hid g2
        have HP1 := Lib.hid hP1
        have HHD := Lib.hid (fun w => headOK_any k d (s.extract q st) v g2 HPT.out hpz w)
        have HVP : Hid (0 < (enc v).length) := Lib.hid hv0
        clear hP hP1 hdec g1 g2 hlen hst hE2 hv0
        go_wp2_with fail
        refine (HE.out _).mono ?_
        rintro e w3 ⟨rfl, hb3⟩
        have HB3 := hide (hB.out.trans (hb3.mono hB.out.size))
        have gst : ((st : Int) == -1) = false := beq_eq_false_iff_ne.2 (by omega)
        clear hb3 HE hB
        by_cases h0 : i = 0
        · subst h0
          cases hho : headOK k v
          · have HP4 : Hid (lp (ord d) (dec d) k n 0 none r = none) := Lib.hid (by rw [HP1.out, if_pos ⟨rfl, hho⟩])
            rw [hho] at HHD
            go_wp2_with fail
            refine (HHD.out _).mono ?_
            rintro e w4 ⟨rfl, rfl⟩
            go_wp2_with fail
            go_ret
            exact ⟨by rw [HP4.out]; rfl, unhide HB3⟩
          have HNH : Hid (¬ (0 = 0 ∧ headOK k v = false)) := Lib.hid (fun z => by rw [hho] at z; cases z.2)
          rw [hho] at HHD
          go_wp2_with fail
          refine (HHD.out _).mono ?_
          rintro e w4 ⟨rfl, rfl⟩
          clear HHD hho
          have HP2 : Hid (lp (ord d) (dec d) k n 0 none r = if cmpAt k 0 = true then (if okAfter (ord d) last v = true then lp (ord d) (dec d) k (n - (0 + 1)) (0 + 1) (some v) rr else none) else lp (ord d) (dec d) k (n - (0 + 1)) (0 + 1) last rr) := Lib.hid (by rw [HP1.out, if_neg HNH.out])
          by_cases hc : cmpAt k 0 = true
          · have HP3 : Hid (lp (ord d) (dec d) k n 0 none r = if okAfter (ord d) last v = true then lp (ord d) (dec d) k (n - (0 + 1)) (0 + 1) (some v) rr else none) := Lib.hid (by rw [HP2.out, if_pos hc])
            have hkk : ((k.toNat : Int) == 5) = true ∨ (((k.toNat : Int) == 5) = false ∧ ((k.toNat : Int) == 6) = true ∧ ((((0 : Nat) : Int)) % 2 == 0) = true) := by
              unfold cmpAt at hc
              by_cases h5 : k = 5
              · left; rw [h5]; rfl
              · right
                have h6 : k = 6 ∧ 0 % 2 = 0 := by simpa [h5] using hc
                refine ⟨u8_ne h5, by rw [h6.1]; rfl, ?_⟩
                rw [beq_iff_eq]; omega
            clear HP2 hc
            cases last with
            | none =>
              have hem := isE_of hL.out
              have HP4 : Hid (lp (ord d) (dec d) k n 0 none r = lp (ord d) (dec d) k (n - (0 + 1)) (0 + 1) (some v) ((bs s).drop st)) := Lib.hid (by rw [HP3.out, HDR.out]; rfl)
              rcases hkk with g5 | ⟨g5, g6, g7⟩
              all_goals
                go_wp2_with fail
                go_roundw
                case rel => exact ⟨0 + 1, st, some v, s.extract q st, by go_num, rfl, rfl, by omega, hst2, hpz, HPT.out, fun u q => by cases q; exact HWV.out, HP4.out, unhide HB3⟩
                case measure => simp [intOf]; omega
            | some u =>
              have hwu := hW.out u rfl
              have hem := isE_not (s := lb) (by rw [hL.out]; intro z; have := enc_pos u hwu; rw [show lastB (some u) = enc u from rfl] at z; rw [z] at this; exact absurd this (by simp))
              have HCV := Lib.hid (fun w => cmpV_any d lb (s.extract q st) u v hwu HWV.out hL.out HPT.out hlb hpz w)
              by_cases ho : ord d u v < 0
              · have HP4 : Hid (lp (ord d) (dec d) k n 0 none r = lp (ord d) (dec d) k (n - (0 + 1)) (0 + 1) (some v) ((bs s).drop st)) := Lib.hid (by rw [HP3.out, HDR.out, if_pos (by unfold okAfter; exact decide_eq_true ho)])
                have go1 : decide ((0 : Int) ≤ ord d u v) = false := decide_eq_false (by omega)
                have ho2 : ¬ (0 ≤ ord d u v) := by omega
                clear HP3
                rcases hkk with g5 | ⟨g5, g6, g7⟩
                all_goals
                  go_wp2_with fail
                  refine (HCV.out _).mono ?_
                  rintro e w5 ⟨rfl, hb5⟩
                  have HB5 := hide ((unhide HB3).trans (hb5.mono (unhide HB3).size))
                  clear hb5
                  go_wp2_with fail
                  go_roundw
                  case rel => exact ⟨0 + 1, st, some v, s.extract q st, by go_num, rfl, rfl, by omega, hst2, hpz, HPT.out, fun u q => by cases q; exact HWV.out, HP4.out, unhide HB5⟩
                  case measure => simp [intOf]; omega
              · have HP4 : Hid (lp (ord d) (dec d) k n 0 none r = none) := Lib.hid (by rw [HP3.out, if_neg (by unfold okAfter; simpa using ho)])
                have go1 : decide ((0 : Int) ≤ ord d u v) = true := decide_eq_true (by omega)
                have ho2 : 0 ≤ ord d u v := by omega
                clear HP3 ho
                rcases hkk with g5 | ⟨g5, g6, g7⟩
                all_goals
                  go_wp2_with fail
                  refine (HCV.out _).mono ?_
                  rintro e w5 ⟨rfl, hb5⟩
                  have HB5 := hide ((unhide HB3).trans (hb5.mono (unhide HB3).size))
                  clear hb5
                  go_wp2_with fail
                  go_ret
                  exact ⟨by rw [HP4.out]; rfl, unhide HB5⟩
          · have HP4 : Hid (lp (ord d) (dec d) k n 0 none r = lp (ord d) (dec d) k (n - (0 + 1)) (0 + 1) last ((bs s).drop st)) := Lib.hid (by rw [HP2.out, if_neg hc, HDR.out])
            have g5 : ((k.toNat : Int) == 5) = false := u8_ne (c := 5) (fun z => hc (by rw [z]; rfl))
            have hkk : ((k.toNat : Int) == 6) = false ∨ (((k.toNat : Int) == 6) = true ∧ ((((0 : Nat) : Int)) % 2 == 0) = false) := by
              by_cases h6 : k = 6
              · right
                refine ⟨by rw [h6]; rfl, beq_eq_false_iff_ne.2 fun z => hc ?_⟩
                rw [h6]; unfold cmpAt; simp <;> omega
              · exact .inl (u8_ne h6)
            clear HP2 hc
            rcases hkk with g6 | ⟨g6, g7⟩
            · go_wp2_with fail
              go_roundw
              case rel => exact ⟨0 + 1, st, last, lb, by go_num, rfl, rfl, by omega, hst2, hlb, hL.out, hW.out, HP4.out, unhide HB3⟩
              case measure => simp [intOf]; omega
            · exact absurd g7 (by decide)
        · have g0 : ((i : Int) == 0) = false := beq_eq_false_iff_ne.2 (by omega)
          have HNH : Hid (¬ (i = 0 ∧ headOK k v = false)) := Lib.hid (fun z => h0 z.1)
          clear HHD
          have HP2 : Hid (lp (ord d) (dec d) k n 0 none r = if cmpAt k i = true then (if okAfter (ord d) last v = true then lp (ord d) (dec d) k (n - (i + 1)) (i + 1) (some v) rr else none) else lp (ord d) (dec d) k (n - (i + 1)) (i + 1) last rr) := Lib.hid (by rw [HP1.out, if_neg HNH.out])
          by_cases hc : cmpAt k i = true
          · have HP3 : Hid (lp (ord d) (dec d) k n 0 none r = if okAfter (ord d) last v = true then lp (ord d) (dec d) k (n - (i + 1)) (i + 1) (some v) rr else none) := Lib.hid (by rw [HP2.out, if_pos hc])
            have hkk : ((k.toNat : Int) == 5) = true ∨ (((k.toNat : Int) == 5) = false ∧ ((k.toNat : Int) == 6) = true ∧ ((i : Int) % 2 == 0) = true) := by
              unfold cmpAt at hc
              by_cases h5 : k = 5
              · left; rw [h5]; rfl
              · right
                have h6 : k = 6 ∧ i % 2 = 0 := by simpa [h5] using hc
                refine ⟨u8_ne h5, by rw [h6.1]; rfl, ?_⟩
                rw [beq_iff_eq]; omega
            clear HP2 hc
            cases last with
            | none =>
              have hem := isE_of hL.out
              have HP4 : Hid (lp (ord d) (dec d) k n 0 none r = lp (ord d) (dec d) k (n - (i + 1)) (i + 1) (some v) ((bs s).drop st)) := Lib.hid (by rw [HP3.out, HDR.out]; rfl)
              rcases hkk with g5 | ⟨g5, g6, g7⟩
              all_goals
                go_wp2_with fail
                go_roundw
                case rel => exact ⟨i + 1, st, some v, s.extract q st, by go_num, rfl, rfl, by omega, hst2, hpz, HPT.out, fun u q => by cases q; exact HWV.out, HP4.out, unhide HB3⟩
                case measure => simp [intOf]; omega
            | some u =>
              have hwu := hW.out u rfl
              have hem := isE_not (s := lb) (by rw [hL.out]; intro z; have := enc_pos u hwu; rw [show lastB (some u) = enc u from rfl] at z; rw [z] at this; exact absurd this (by simp))
              have HCV := Lib.hid (fun w => cmpV_any d lb (s.extract q st) u v hwu HWV.out hL.out HPT.out hlb hpz w)
              by_cases ho : ord d u v < 0
              · have HP4 : Hid (lp (ord d) (dec d) k n 0 none r = lp (ord d) (dec d) k (n - (i + 1)) (i + 1) (some v) ((bs s).drop st)) := Lib.hid (by rw [HP3.out, HDR.out, if_pos (by unfold okAfter; exact decide_eq_true ho)])
                have go1 : decide ((0 : Int) ≤ ord d u v) = false := decide_eq_false (by omega)
                have ho2 : ¬ (0 ≤ ord d u v) := by omega
                clear HP3
                rcases hkk with g5 | ⟨g5, g6, g7⟩
                all_goals
                  go_wp2_with fail
                  refine (HCV.out _).mono ?_
                  rintro e w5 ⟨rfl, hb5⟩
                  have HB5 := hide ((unhide HB3).trans (hb5.mono (unhide HB3).size))
                  clear hb5
                  go_wp2_with fail
                  go_roundw
                  case rel => exact ⟨i + 1, st, some v, s.extract q st, by go_num, rfl, rfl, by omega, hst2, hpz, HPT.out, fun u q => by cases q; exact HWV.out, HP4.out, unhide HB5⟩
                  case measure => simp [intOf]; omega
              · have HP4 : Hid (lp (ord d) (dec d) k n 0 none r = none) := Lib.hid (by rw [HP3.out, if_neg (by unfold okAfter; simpa using ho)])
                have go1 : decide ((0 : Int) ≤ ord d u v) = true := decide_eq_true (by omega)
                have ho2 : 0 ≤ ord d u v := by omega
                clear HP3 ho
                rcases hkk with g5 | ⟨g5, g6, g7⟩
                all_goals
                  go_wp2_with fail
                  refine (HCV.out _).mono ?_
                  rintro e w5 ⟨rfl, hb5⟩
                  have HB5 := hide ((unhide HB3).trans (hb5.mono (unhide HB3).size))
                  clear hb5
                  go_wp2_with fail
                  go_ret
                  exact ⟨by rw [HP4.out]; rfl, unhide HB5⟩
          · have HP4 : Hid (lp (ord d) (dec d) k n 0 none r = lp (ord d) (dec d) k (n - (i + 1)) (i + 1) last ((bs s).drop st)) := Lib.hid (by rw [HP2.out, if_neg hc, HDR.out])
            have g5 : ((k.toNat : Int) == 5) = false := u8_ne (c := 5) (fun z => hc (by rw [z]; rfl))
            have hkk : ((k.toNat : Int) == 6) = false ∨ (((k.toNat : Int) == 6) = true ∧ ((i : Int) % 2 == 0) = false) := by
              by_cases h6 : k = 6
              · right
                refine ⟨by rw [h6]; rfl, beq_eq_false_iff_ne.2 fun z => hc ?_⟩
                rw [h6]; unfold cmpAt; simp <;> omega
              · exact .inl (u8_ne h6)
            clear HP2 hc
            rcases hkk with g6 | ⟨g6, g7⟩
            · go_wp2_with fail
              go_roundw
              case rel => exact ⟨i + 1, st, last, lb, by go_num, rfl, rfl, by omega, hst2, hlb, hL.out, hW.out, HP4.out, unhide HB3⟩
              case measure => simp [intOf]; omega
            · go_wp2_with fail
              go_roundw
              case rel => exact ⟨i + 1, st, last, lb, by go_num, rfl, rfl, by omega, hst2, hlb, hL.out, hW.out, HP4.out, unhide HB3⟩
              case measure => simp [intOf]; omega
    · have hP1 := hP.out
      rw [show n - i = 0 by omega] at hP1
      have he : endL (lp (ord d) (dec d) k 0 i last ((bs s).drop q)) s.size = (q : Int) := by
        unfold lp
        show ((s.size - ((bs s).drop q).length : Nat) : Int) = _
        rw [List.length_drop, bs_size]; congr 1; omega
      have HPE : Hid (endL (lp (ord d) (dec d) k n 0 none r) s.size = (q : Int)) := Lib.hid (by rw [hP1]; exact he)
      clear hP hP1 he
      go_wp2_with fail
      go_ret
      exact ⟨by rw [HPE.out]; rfl, hB.out⟩

end Go.Proofs.YtdifpemohdnolaaGreat
namespace Go.Proofs.YtdifpemohdnolaaGreat
open Go.RowKit VM

theorem simple_not {k : UInt8} (h : simpleB k = false) : k ≠ 1 ∧ k ≠ 2 ∧ k ≠ 10 := by
  unfold simpleB at h
  simpa using h
theorem dec_not {d : Nat} {k : UInt8} {r : List UInt8} (h : simpleB k = false) (hc : isComp k = false ∨ r.length < 2) : dec (d + 1) (k :: r) = none := by
  obtain ⟨h1, h2, h3⟩ := simple_not h
  unfold dec
  rw [if_neg h1, if_neg h2, if_neg h3]
  rcases hc with hc | hc
  · rw [if_neg (by rw [hc]; simp)]
  · split
    · match r, hc with
      | [], _ => rfl
      | [a], _ => rfl
      | a :: b :: r, hc => exact absurd hc (by simp)
    · rfl
set_option maxRecDepth 100000 in
set_option maxHeartbeats 6400000 in
theorem end_up (d : Nat) (hd : d ≤ 1000) (ih : EndCon d) : EndCon (d + 1) := by
  intro s p w hb hp
  have HIH := Lib.hid ih
  have gd : ((d : Int) + 1 == 0) = false := beq_eq_false_iff_ne.2 (by omega)
  cases hdr : (bs s).drop p with
  | nil =>
    have hle : s.size ≤ p := by have := congrArg List.length hdr; rw [List.length_drop, bs_size] at this; simp at this; omega
    have he : endD (dec (d + 1) ([] : List UInt8)) s.size = -1 := rfl
    rw [he]
    clear hdr he ih gd
    go_enter Tryz.func80, Tryz.ntmps80
    go_wp2_with fail
    all_goals
      go_ret
      exact ⟨rfl, Below.refl _ _⟩
  | cons k r =>
    obtain ⟨h1, h2, h3, h4⟩ := drop_of hdr
    have e1 : s[p]'h1 = k := by rw [bs_get s p h1] at h3; exact Option.some.inj h3
    have wk : wrap64 (k.toNat : Int) = (k.toNat : Int) := IntWalk.wrap64_in _ (by have := k.toNat_lt; omega)
    have HS := Lib.hid (fun w => simple_any k w)
    cases hsk : simpleB k with
    | true =>
      have HE := Lib.hid (fun w => simpleEnd_any s p k r d hsk hdr hb w)
      rw [hsk] at HS
      generalize endD (dec (d + 1) (k :: r)) s.size = z at *
      clear hdr h2 h3 h4 ih hsk
      go_enter Tryz.func80, Tryz.ntmps80
      go_wp2_with fail
      refine (HS.out _).mono ?_
      rintro e w1 ⟨rfl, rfl⟩
      go_wp2_with fail
      refine (HE.out _).mono ?_
      rintro e w2 ⟨rfl, rfl⟩
      go_wp2_with fail
      go_ret
      exact ⟨rfl, Below.refl _ _⟩
    | false =>
      rw [hsk] at HS
      by_cases hc : isComp k = true ∧ 2 ≤ r.length
      · obtain ⟨hc1, hc2⟩ := hc
        obtain ⟨a, b, r', rfl⟩ : ∃ a b r', r = a :: b :: r' := by
          match r, hc2 with
          | a :: b :: r', _ => exact ⟨a, b, r', rfl⟩
        have HE := Lib.hid (fun w => ce_any d ih hd s p k a b r' hdr hc1 hb w)
        have hk39 : 3 ≤ k.toNat ∧ k.toNat ≤ 9 := by unfold isComp at hc1; exact of_decide_eq_true hc1
        have hp3 : p + 3 ≤ s.size := by simp at h2; omega
        generalize endD (dec (d + 1) (k :: a :: b :: r')) s.size = z at *
        clear hdr h2 h3 h4 ih hsk hc1 hc2
        go_enter Tryz.func80, Tryz.ntmps80
        go_wp2_with fail
        refine (HS.out _).mono ?_
        rintro e w1 ⟨rfl, rfl⟩
        go_wp2_with fail
        refine (HE.out _).mono ?_
        rintro e w2 ⟨rfl, hb2⟩
        have HB2 := hide hb2
        clear hb2
        go_wp2_with fail
        go_ret
        exact ⟨rfl, unhide HB2⟩
      · have he : dec (d + 1) (k :: r) = none := dec_not hsk (by
          by_cases q : isComp k = true
          · exact .inr (Nat.lt_of_not_le fun z => hc ⟨q, z⟩)
          · exact .inl (by simpa using q))
        have hcc : ¬ (3 ≤ k.toNat ∧ k.toNat ≤ 9) ∨ s.size < p + 3 := by
          by_cases q : isComp k = true
          · right; have : ¬ 2 ≤ r.length := fun z => hc ⟨q, z⟩; omega
          · left; unfold isComp at q; simpa using q
        rw [he]
        clear hdr h2 h3 h4 ih hsk hc he
        go_enter Tryz.func80, Tryz.ntmps80
        go_wp2_with fail
        refine (HS.out _).mono ?_
        rintro e w1 ⟨rfl, rfl⟩
        go_wp2_with fail
        all_goals first
          | (exfalso; omega)
          | (go_ret; exact ⟨rfl, Below.refl _ _⟩)
theorem end_any : ∀ d, d ≤ 1000 → EndCon d
  | 0, _ => by
    intro s p w hb hp
    have he : endD (dec 0 ((bs s).drop p)) s.size = -1 := rfl
    rw [he]
    clear he
    go_enter Tryz.func80, Tryz.ntmps80
    go_wp2_with fail
    all_goals
      go_ret
      exact ⟨rfl, Below.refl _ _⟩
  | d + 1, h => end_up d (by omega) (end_any d (by omega))
/-- is the string a value that is nested at most d deep? -/
def valB (d : Nat) (s : ByteArray) : Bool := decide (s.size ≤ 131072) && (match dec d (bs s) with
  | some (_, []) => true
  | _ => false)
theorem valB_end {d : Nat} {s : ByteArray} : (endD (dec d (bs s)) s.size == (s.size : Int)) = (match dec d (bs s) with
  | some (_, []) => true
  | _ => false) := by
  cases h : dec d (bs s) with
  | none => exact beq_eq_false_iff_ne.2 (by show (-1 : Int) ≠ _; omega)
  | some q =>
    obtain ⟨v, r⟩ := q
    have h1 := congrArg List.length (dec_ok d _ _ _ h).1
    rw [bs_size, List.length_append] at h1
    have h2 := enc_pos v (dec_ok d _ _ _ h).2
    cases r with
    | nil => exact beq_iff_eq.2 (by show ((s.size - 0 : Nat) : Int) = _; rfl)
    | cons b r => exact beq_eq_false_iff_ne.2 (by show ((s.size - (r.length + 1) : Nat) : Int) ≠ _; simp at h1; omega)
set_option maxRecDepth 100000 in
set_option maxHeartbeats 1600000 in
theorem fits_any (d : Nat) (hd : d ≤ 1000) (s : ByteArray) (hs : s.size ≤ 281474976710656) (w : World) :
    Calls Tryz.prog 58 #[.string s, .int .i64 (d : Int)] w fun e w' => e = .returned (.bool (valB d s)) ∧ Below w.heap.size w w' := by
  by_cases hb : s.size ≤ 131072
  · have HE := Lib.hid (fun w => end_any d hd s 0 w (by omega) (by omega))
    have hv : valB d s = (endD (dec d (bs s)) s.size == (s.size : Int)) := by
      rw [valB_end]; unfold valB; rw [decide_eq_true hb, Bool.true_and]
    rw [List.drop_zero] at HE
    rw [hv]
    generalize endD (dec d (bs s)) s.size = z at *
    clear hv
    go_enter Tryz.func58, Tryz.ntmps58
    go_wp2_with fail
    refine (HE.out _).mono ?_
    rintro e w2 ⟨rfl, hb2⟩
    have HB2 := hide hb2
    clear hb2
    go_wp2_with fail
    go_ret
    exact ⟨rfl, unhide HB2⟩
  · have hv : valB d s = false := by unfold valB; rw [decide_eq_false hb]; rfl
    rw [hv]
    clear hv
    go_enter Tryz.func58, Tryz.ntmps58
    go_wp2_with fail
    all_goals
      go_ret
      exact ⟨rfl, Below.refl _ _⟩
set_option maxHeartbeats 1600000 in
theorem valid_any (s : ByteArray) (hs : s.size ≤ 281474976710656) (w : World) :
    Calls Tryz.prog 42 #[.string s] w fun e w' => e = .returned (.bool (valB 32 s)) ∧ Below w.heap.size w w' := by
  have C := hide (fits_any 32 (by decide) s hs w)
  generalize valB 32 s = z at *
  go_enter Tryz.func42, Tryz.ntmps42
  go_wp2_with fail
  refine (unhide C).mono ?_
  rintro e w2 ⟨rfl, hb2⟩
  have HB2 := hide hb2
  clear hb2
  go_wp2_with fail
  go_ret
  exact ⟨rfl, unhide HB2⟩

end Go.Proofs.YtdifpemohdnolaaGreat
