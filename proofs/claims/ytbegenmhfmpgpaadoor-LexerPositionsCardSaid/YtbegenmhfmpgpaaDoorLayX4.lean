/- A valid token's text followed by a white byte is scanned as that token: names, keywords and symbols. No program in it. -/
import Derived.Test.YtbegenmhfmpgpaaDoorLayX1
namespace Go.Proofs.YtbegenmhfmpgpaaDoor.M

def whiteB (d : UInt8) : Bool := d.toNat == 32 || d.toNat == 9 || d.toNat == 13 || d.toNat == 10
theorem white_cases {d : UInt8} (h : whiteB d = true) : d = 32 ∨ d = 9 ∨ d = 13 ∨ d = 10 := by
  simp only [whiteB, Bool.or_eq_true, beq_iff_eq] at h
  rcases h with ((h | h) | h) | h
  · exact .inl (UInt8.toNat_inj.1 h)
  · exact .inr (.inl (UInt8.toNat_inj.1 h))
  · exact .inr (.inr (.inl (UInt8.toNat_inj.1 h)))
  · exact .inr (.inr (.inr (UInt8.toNat_inj.1 h)))
theorem pre_ws (d : UInt8) (p : Bs) : (∀ c, c ∈ p → c ≠ d) → ∀ v y : Bs, p.isPrefixOf (v ++ d :: y) = p.isPrefixOf v := by
  induction p with
  | nil => intro _ v y; simp
  | cons a p ih =>
    intro h v y
    have ha := h a (by simp)
    have ih := ih (fun c hc => h c (by simp [hc]))
    cases v with
    | nil =>
      have : (a == d) = false := beq_eq_false_iff_ne.2 ha
      simp [List.isPrefixOf, this]
    | cons b v => simp only [List.cons_append, List.isPrefixOf]; rw [ih v y]
theorem firstP_ws (d : UInt8) (ps : List Bs) (h : ∀ p, p ∈ ps → ∀ c, c ∈ p → c ≠ d) (v y : Bs) : firstP (v ++ d :: y) ps = firstP v ps := by
  induction ps with
  | nil => rfl
  | cons p ps ih =>
    have ih := ih (fun q hq => h q (by simp [hq]))
    unfold firstP
    rw [pre_ws d p (h p (by simp)) v y, ih]
theorem symB_ws {d : UInt8} (hd : whiteB d = true) (v y : Bs) (hv : v ≠ []) : symB (v ++ d :: y) = symB v := by
  cases v with
  | nil => exact absurd rfl hv
  | cons c v =>
    show symOf c (c :: v ++ d :: y) = symOf c (c :: v)
    generalize c :: v = w
    have hF : ∀ ps : List Bs, (ps.all fun p => p.all fun c => !whiteB c) = true → firstP (w ++ d :: y) ps = firstP w ps := fun ps h =>
      firstP_ws d ps (fun p hp c hc e => by
        have := List.all_eq_true.1 (List.all_eq_true.1 h p hp) c hc
        rw [e, hd] at this
        exact absurd this (by decide)) w y
    have hP : ∀ p : Bs, (p.all fun c => !whiteB c) = true → p.isPrefixOf (w ++ d :: y) = p.isPrefixOf w := fun p h =>
      pre_ws d p (fun c hc e => by
        have := List.all_eq_true.1 h c hc
        rw [e, hd] at this
        exact absurd this (by decide)) w y
    unfold symOf parenP
    rw [hP [40, 124, 126] (by decide), hP [40, 124, 124] (by decide)]
    rw [hF, hF, hF, hF, hF, hF, hF, hF, hF, hF, hF, hF, hF, hF, hF] <;> rfl
theorem cont_white {d : UInt8} (hd : whiteB d = true) : contB d = false := by
  rcases white_cases hd with rfl | rfl | rfl | rfl <;> decide
theorem wlen_ws {d : UInt8} (hd : whiteB d = true) (v y : Bs) : wlen (v ++ d :: y) = wlen v := by
  induction v with
  | nil => rw [List.nil_append, wlen_cons, if_neg (by rw [cont_white hd]; decide)]; rfl
  | cons c v ih => rw [List.cons_append, wlen_cons, wlen_cons, ih]
theorem wordN_ws {d : UInt8} (hd : whiteB d = true) (v y : Bs) (hv : v ≠ []) : wordN (v ++ d :: y) = wordN v := by
  cases v with
  | nil => exact absurd rfl hv
  | cons c v =>
    show (if (letterB c || digitB c) = true then 1 + wlen (v ++ d :: y) else 0) = if (letterB c || digitB c) = true then 1 + wlen v else 0
    rw [wlen_ws hd]
theorem itemR_ws {d : UInt8} (hd : whiteB d = true) (v y : Bs) (hv : v ≠ []) : itemR (v ++ d :: y) = itemR v := by
  unfold itemR
  rw [wordN_ws hd v y hv, symB_ws hd v y hv, List.take_append_of_le_length (wordN_le v)]
theorem itemN_ws {d : UInt8} (hd : whiteB d = true) (v y : Bs) (hv : v ≠ []) : itemN (v ++ d :: y) = itemN v := by
  unfold itemN
  rw [wordN_ws hd v y hv, symB_ws hd v y hv]

theorem dig_toNat (r : Nat) (h : r < 10) : (dig r).toNat = 48 + r := by
  have : ∀ r : Fin 10, (dig r.val).toNat = 48 + r.val := by decide
  exact this ⟨r, h⟩
theorem decF_fold : ∀ (f n : Nat) (acc : Bs), n < 10 ^ f → (decF f n acc).foldl (fun a c => 10 * a + (c.toNat - 48)) 0 = acc.foldl (fun a c => 10 * a + (c.toNat - 48)) n := by
  intro f
  induction f with
  | zero => intro n acc h; have : n = 0 := by simpa using h
            subst this; rfl
  | succ f ih =>
    intro n acc h
    unfold decF
    by_cases h0 : n = 0
    · rw [if_pos h0, h0]
    · rw [if_neg h0, ih (n / 10) _ (by rw [Nat.pow_succ] at h; omega), List.foldl_cons, dig_toNat _ (by omega)]
      congr 1
      omega
theorem decF_all : ∀ (f n : Nat) (acc : Bs), allDigits (decF f n acc) = allDigits acc := by
  intro f
  induction f with
  | zero => intro n acc; rfl
  | succ f ih =>
    intro n acc
    unfold decF
    split
    · rfl
    · rw [ih]
      have h := dig_toNat (n % 10) (by omega)
      have hd : digitB (dig (n % 10)) = true := by simp only [digitB, h, Bool.and_eq_true, decide_eq_true_eq]; omega
      simp [allDigits, hd]
theorem decF_ne : ∀ (f n : Nat) (acc : Bs), acc ≠ [] → decF f n acc ≠ [] := by
  intro f
  induction f with
  | zero => intro n acc h; exact h
  | succ f ih => intro n acc h; unfold decF; split
                 · exact h
                 · exact ih _ _ (by simp)
theorem decF_head : ∀ (f n : Nat) (acc : Bs), n < 10 ^ f → n ≠ 0 → (decF f n acc).head? ≠ some 48 := by
  intro f
  induction f with
  | zero => intro n acc h h0; have : n = 0 := by simpa using h
            exact absurd this h0
  | succ f ih =>
    intro n acc h h0
    unfold decF
    rw [if_neg h0]
    by_cases h1 : n / 10 = 0
    · have e : decF f (n / 10) (dig (n % 10) :: acc) = dig (n % 10) :: acc := by
        rw [h1]; cases f with
        | zero => rfl
        | succ f => unfold decF; rw [if_pos rfl]
      rw [e]
      intro q
      have q := Option.some.inj q
      have := dig_toNat (n % 10) (by omega)
      rw [q] at this
      have : (48 : Nat) = 48 + n % 10 := this
      omega
    · exact ih _ _ (by rw [Nat.pow_succ] at h; omega) h1
theorem wlen_digits (l : Bs) (h : allDigits l = true) : wlen l = l.length := by
  induction l with
  | nil => rfl
  | cons c r ih =>
    simp only [allDigits, List.all_cons, Bool.and_eq_true] at h
    rw [wlen_cons, if_pos (cont_of (by rw [h.1]; simp)), ih h.2, List.length_cons]; omega
theorem item_dec (n : Nat) (hn : n ≤ 9223372036854775807) : itemR (decB n) = ⟨2, (n : Int), [], 0⟩ ∧ itemN (decB n) = (decB n).length ∧ decB n ≠ [] := by
  have h10 : n / 10 < 10 ^ 20 := by have : (10 : Nat) ^ 20 = 100000000000000000000 := by decide
                                    omega
  have hd := dig_toNat (n % 10) (by omega)
  have hne : decB n ≠ [] := decF_ne _ _ _ (by simp)
  have hall : allDigits (decB n) = true := by
    unfold decB; rw [decF_all]
    simp only [allDigits, List.all_cons, List.all_nil, Bool.and_true, digitB, hd, Bool.and_eq_true, decide_eq_true_eq]; omega
  have hval : intVal (decB n) = n := by
    unfold intVal decB; rw [decF_fold _ _ _ h10]
    simp only [List.foldl_cons, List.foldl_nil, hd]; omega
  have hhead : ¬ ((decB n).head? = some 48 ∧ decB n ≠ [48]) := by
    rintro ⟨q1, q2⟩
    by_cases h0 : n / 10 = 0
    · have e : decB n = [dig (n % 10)] := by unfold decB; rw [h0]; rfl
      rw [e] at q1 q2
      have q1 := Option.some.inj q1
      rw [q1] at q2
      exact q2 rfl
    · exact decF_head 20 (n / 10) _ h10 h0 q1
  have hw : wordN (decB n) = (decB n).length := by
    refine (wordN_all hne).2 ⟨wlen_digits _ hall, ?_⟩
    cases hc : decB n with
    | nil => exact absurd hc hne
    | cons c r =>
      rw [hc] at hall
      simp only [allDigits, List.all_cons, Bool.and_eq_true] at hall
      simp [hall.1]
  have hl : (decB n).length ≠ 0 := fun e => hne (List.eq_nil_of_length_eq_zero e)
  refine ⟨?_, ?_, hne⟩
  · unfold itemR
    rw [if_pos (by rw [hw]; exact hl), hw, List.take_length]
    unfold wordR
    have hh : ((decB n).head?.map digitB) = some true := by
      cases hc : decB n with
      | nil => exact absurd hc hne
      | cons c r =>
        rw [hc] at hall
        simp only [allDigits, List.all_cons, Bool.and_eq_true] at hall
        simp [hall.1]
    rw [if_pos hh]
    unfold intR
    rw [if_neg hhead, if_neg (by rw [hall]; decide), hval, if_pos (by omega)]
  · unfold itemN
    rw [if_pos (by rw [hw]; exact hl), hw]

/-- a valid token's text, whatever white byte and text follow -/
theorem item_text (t : TR) (hv : valT t = true) (hn : t.num ≤ 9223372036854775807) {d : UInt8} (hd : whiteB d = true) (y : Bs) :
    ∃ it : TR, itemR (textB t ++ d :: y) = it ∧ it.err = 0 ∧ it.kind = t.kind ∧ it.num = t.num ∧ it.str = t.str ∧ itemN (textB t ++ d :: y) = (textB t).length ∧ textB t ≠ [] := by
  have hr : rvalT t = true := by rw [rval_eq]; exact hv
  obtain ⟨k, num, str, er⟩ := t
  unfold rvalT at hr
  simp only at hr hn
  by_cases h2 : k = 2
  · subst h2
    rw [if_neg (by decide), if_pos rfl] at hr
    simp only [Bool.and_eq_true, decide_eq_true_eq] at hr
    obtain ⟨h0, rfl⟩ := hr
    have e : textB ⟨2, num, [], er⟩ = decB num.toNat := rfl
    obtain ⟨i1, i2, i3⟩ := item_dec num.toNat (by omega)
    rw [e, itemR_ws hd _ y i3, itemN_ws hd _ y i3, i1, i2]
    exact ⟨_, rfl, rfl, rfl, by show ((num.toNat : Nat) : Int) = num; omega, rfl, rfl, i3⟩
  · have e : textB ⟨k, num, str, er⟩ = str := by unfold textB; rw [if_neg h2]
    have hk : k = 1 ∨ k = 3 ∨ k = 4 := by
      by_cases h1 : k = 1
      · exact .inl h1
      · by_cases h3 : k = 3
        · exact .inr (.inl h3)
        · by_cases h4 : k = 4
          · exact .inr (.inr h4)
          · rw [if_neg h1, if_neg h2, if_neg h3, if_neg h4] at hr; exact absurd hr (by decide)
    have hi : valT ⟨k, num, str, er⟩ = (decide ((itemR str).err = 0) && (decide ((itemR str).kind = k) && (decide ((itemR str).num = num) && decide ((itemR str).str = str)))) := by
      unfold valT; rw [if_neg h2, if_pos hk]
    rw [hi] at hv
    simp only [Bool.and_eq_true, decide_eq_true_eq] at hv
    obtain ⟨v1, v2, v3, v4⟩ := hv
    have hN : itemN str = str.length ∧ str ≠ [] := by
      rcases hk with rfl | rfl | rfl
      · rw [if_pos rfl] at hr
        unfold nameB at hr
        simp only [Bool.and_eq_true, decide_eq_true_eq, beq_iff_eq, Bool.not_eq_true'] at hr
        obtain ⟨-, hp, -, hl, hw, -⟩ := hr
        have hne : str ≠ [] := by intro q; rw [q] at hp; simp at hp
        have hW : wordN str = str.length := by
          refine (wordN_all hne).2 ⟨hw, ?_⟩
          cases str with
          | nil => exact absurd rfl hne
          | cons c r => simp at hl; simp [hl]
        exact ⟨by unfold itemN; rw [if_pos (by rw [hW]; omega), hW], hne⟩
      · rw [if_neg (by decide), if_neg (by decide), if_pos rfl] at hr
        simp only [Bool.and_eq_true, decide_eq_true_eq] at hr
        have hm : str ∈ keywords := by simpa [kwB] using hr.2
        have hq := item_kw str hm
        simp only [Bool.and_eq_true, decide_eq_true_eq] at hq
        have hne : str ≠ [] := by intro q; rw [q] at hq; simp at hq
        have hl : str.length ≠ 0 := fun q => hne (List.eq_nil_of_length_eq_zero q)
        exact ⟨by unfold itemN; rw [if_pos (by rw [hq.1]; exact hl), hq.1], hne⟩
      · rw [if_neg (by decide), if_neg (by decide), if_neg (by decide), if_pos rfl] at hr
        simp only [Bool.and_eq_true, decide_eq_true_eq] at hr
        have hm : str ∈ symbolsL := by simpa using hr.2
        have hq := item_sym str hm
        simp only [Bool.and_eq_true, decide_eq_true_eq] at hq
        exact ⟨by unfold itemN; rw [if_neg (by rw [hq.1]; simp), hq.2], symbolsL_ne str hm⟩
    rw [e, itemR_ws hd _ y hN.2, itemN_ws hd _ y hN.2]
    exact ⟨_, rfl, v1, v2, v3, v4, hN.1, hN.2⟩

end Go.Proofs.YtbegenmhfmpgpaaDoor.M
