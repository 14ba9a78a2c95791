/- The model: texts of valid tokens with white space and comments between them are scanned as these tokens. No program in it. -/
import Derived.Test.YtbegenmhfmpgpaaDoorLayX4
import Derived.Test.YtbegenmhfmpgpaaDoorLayE
namespace Go.Proofs.YtbegenmhfmpgpaaDoor.M
open Go

/-! what begins an item -/
def headOk (a b : UInt8) : Bool := !(whiteB a) && !(a.toNat == 45 && b.toNat == 45) && !(a.toNat == 123 && b.toNat == 45)
theorem gap_item (a b : UInt8) (r : Bs) (h : headOk a b = true) : gapR (a :: b :: r) = (0, true) := by
  simp only [headOk, Bool.and_eq_true, Bool.not_eq_true', Bool.and_eq_false_iff, beq_eq_false_iff_ne] at h
  obtain ⟨⟨h1, h2⟩, h3⟩ := h
  have w1 : ¬ (a.toNat = 32 ∨ a.toNat = 9 ∨ a.toNat = 13 ∨ a.toNat = 10) := by
    rintro (q | q | q | q) <;> simp [whiteB, q] at h1
  have e45 : ∀ {c : UInt8}, c = 45 → c.toNat = 45 := fun q => by rw [q]; rfl
  unfold gapR
  simp only
  rw [if_neg w1, if_neg, if_neg]
  · rintro ⟨q1, q2⟩
    simp only [List.isPrefixOf, Bool.and_eq_true, beq_iff_eq] at q2
    rcases h3 with h3 | h3
    · exact h3 q1
    · exact h3 (e45 q2.2.1.symm)
  · rintro ⟨q1, q2⟩
    simp only [List.isPrefixOf, Bool.and_eq_true, beq_iff_eq] at q2
    rcases h2 with h2 | h2
    · exact h2 q1
    · exact h2 (e45 q2.2.1.symm)
def textOk (s : Bs) : Bool := match s with
  | [] => false
  | [a] => !(whiteB a)
  | a :: b :: _ => headOk a b
theorem white_ne45 {d : UInt8} (hd : whiteB d = true) : d.toNat ≠ 45 := by
  rcases white_cases hd with rfl | rfl | rfl | rfl <;> decide
theorem gap_text (s : Bs) (h : textOk s = true) {d : UInt8} (hd : whiteB d = true) (y : Bs) : gapR (s ++ d :: y) = (0, true) := by
  match s, h with
  | [a], h =>
    refine gap_item a d y ?_
    have h45 := white_ne45 hd
    have h : (!(whiteB a)) = true := h
    unfold headOk
    rw [h]
    simp [h45]
  | a :: b :: r, h => exact gap_item a b (r ++ d :: y) h
theorem digit_ok {c : UInt8} (h : digitB c = true) : ∀ b, headOk c b = true := by
  intro b
  simp only [digitB, Bool.and_eq_true, decide_eq_true_eq] at h
  simp only [headOk, whiteB, Bool.and_eq_true, Bool.not_eq_true', Bool.or_eq_false_iff, Bool.and_eq_false_iff, beq_eq_false_iff_ne]
  exact ⟨⟨⟨⟨⟨by omega, by omega⟩, by omega⟩, by omega⟩, .inl (by omega)⟩, .inl (by omega)⟩
theorem letter_ok {c : UInt8} (h : letterB c = true) : ∀ b, headOk c b = true := by
  intro b
  simp only [letterB, Bool.or_eq_true, Bool.and_eq_true, decide_eq_true_eq] at h
  simp only [headOk, whiteB, Bool.and_eq_true, Bool.not_eq_true', Bool.or_eq_false_iff, Bool.and_eq_false_iff, beq_eq_false_iff_ne]
  exact ⟨⟨⟨⟨⟨by omega, by omega⟩, by omega⟩, by omega⟩, .inl (by omega)⟩, .inl (by omega)⟩
theorem text_of_head (c : UInt8) (r : Bs) (h : ∀ b, headOk c b = true) : textOk (c :: r) = true := by
  cases r with
  | nil =>
    have := h 0
    simp only [headOk, Bool.and_eq_true] at this
    exact this.1.1
  | cons b r => exact h b
theorem kw_ok : (keywords.all textOk) = true := by decide
theorem sym_ok : (symbolsL.all textOk) = true := by decide
/-- a valid token's text begins an item, and is short -/
theorem text_ok (t : TR) (hv : valT t = true) (hn : t.num ≤ 9223372036854775807) : textOk (textB t) = true ∧ (textB t).length ≤ 64 := by
  have hr : rvalT t = true := by rw [rval_eq]; exact hv
  obtain ⟨k, num, str, er⟩ := t
  unfold rvalT at hr
  simp only at hr hn
  by_cases h2 : k = 2
  · subst h2
    rw [if_neg (by decide), if_pos rfl] at hr
    simp only [Bool.and_eq_true, decide_eq_true_eq] at hr
    obtain ⟨h0, rfl⟩ := hr
    have e : textB ⟨2, num, [], er⟩ = decB num.toNat := rfl
    rw [e]
    obtain ⟨-, -, i3⟩ := item_dec num.toNat (by omega)
    have hall : allDigits (decB num.toNat) = true := by
      have hd := dig_toNat (num.toNat % 10) (by omega)
      unfold decB; rw [decF_all]
      simp only [allDigits, List.all_cons, List.all_nil, Bool.and_true, digitB, hd, Bool.and_eq_true, decide_eq_true_eq]; omega
    have hlen : ∀ (f n : Nat) (acc : Bs), (decF f n acc).length ≤ acc.length + f := by
      intro f
      induction f with
      | zero => intro n acc; exact Nat.le_refl _
      | succ f ih =>
        intro n acc
        unfold decF
        split
        · omega
        · have := ih (n / 10) (dig (n % 10) :: acc)
          simp at this; omega
    constructor
    · cases hc : decB num.toNat with
      | nil => exact absurd hc i3
      | cons c r =>
        rw [hc] at hall
        simp only [allDigits, List.all_cons, Bool.and_eq_true] at hall
        exact text_of_head c r (digit_ok hall.1)
    · have := hlen 20 (num.toNat / 10) [dig (num.toNat % 10)]
      unfold decB
      simp at this; omega
  · have e : textB ⟨k, num, str, er⟩ = str := by unfold textB; rw [if_neg h2]
    rw [e]
    by_cases h1 : k = 1
    · subst h1
      rw [if_pos rfl] at hr
      unfold nameB at hr
      simp only [Bool.and_eq_true, decide_eq_true_eq, beq_iff_eq, Bool.not_eq_true'] at hr
      obtain ⟨-, hp, hle, hl, hw, -⟩ := hr
      refine ⟨?_, by omega⟩
      cases str with
      | nil => simp at hp
      | cons c r =>
        simp at hl
        exact text_of_head c r (letter_ok hl)
    · by_cases h3 : k = 3
      · subst h3
        rw [if_neg (by decide), if_neg (by decide), if_pos rfl] at hr
        simp only [Bool.and_eq_true, decide_eq_true_eq] at hr
        have hm : str ∈ keywords := by simpa [kwB] using hr.2
        have hlen : (keywords.all fun s => decide (s.length ≤ 64)) = true := by decide
        exact ⟨List.all_eq_true.1 kw_ok str hm, by simpa using List.all_eq_true.1 hlen str hm⟩
      · by_cases h4 : k = 4
        · subst h4
          rw [if_neg (by decide), if_neg (by decide), if_neg (by decide), if_pos rfl] at hr
          simp only [Bool.and_eq_true, decide_eq_true_eq] at hr
          have hm : str ∈ symbolsL := by simpa using hr.2
          have hlen : (symbolsL.all fun s => decide (s.length ≤ 64)) = true := by decide
          exact ⟨List.all_eq_true.1 sym_ok str hm, by simpa using List.all_eq_true.1 hlen str hm⟩
        · rw [if_neg h1, if_neg h2, if_neg h3, if_neg h4] at hr; exact absurd hr (by decide)

/-! what lies between two items -/
/-- g is passed before an item, and before the end -/
def GapOk (g : Bs) : Prop := ∀ r : Bs, gapR r = (0, true) → sk (g ++ r) = (g.length, true)
theorem gapOk_nil : GapOk [] := fun r hr => by
  show skF (([] ++ r : Bs).length + 1) ([] ++ r) 0 = _
  rw [List.nil_append, skF_st2, hr, if_pos (.inr rfl)]; rfl
theorem gapOk_white (g : Bs) (h : ∀ c ∈ g, whiteB c = true) : GapOk g := fun r hr => sk_white g r (fun c hc => by
  rcases white_cases (h c hc) with rfl | rfl | rfl | rfl <;> decide) hr
theorem skF_more (k : Nat) (f : Nat) (g r : Bs) (n : Nat) (h : gapR (g ++ r) = (g.length, true)) (h0 : g ≠ []) (hk : n + g.length = k) : skF (f + 1) (g ++ r) n = skF f r k := by
  have hl : g.length ≠ 0 := fun e => h0 (List.eq_nil_of_length_eq_zero e)
  rw [skF_st2, h]
  rw [if_neg (by simp [hl]), hk]
  simp
theorem skF_end (f : Nat) (r : Bs) (n : Nat) (h : gapR r = (0, true)) : skF (f + 1) r n = (n, true) := by
  rw [skF_st2, h, if_pos (.inr rfl)]
/-- a gap in pieces, each of which is passed at once whatever follows -/
theorem gapOk_pieces : ∀ (gs : List Bs), (∀ g ∈ gs, g ≠ [] ∧ ∀ r, gapR (g ++ r) = (g.length, true)) → GapOk gs.flatten := by
  intro gs hg r hr
  have main : ∀ (gs : List Bs) (f n : Nat), (∀ g ∈ gs, g ≠ [] ∧ ∀ r, gapR (g ++ r) = (g.length, true)) → gs.flatten.length + 1 ≤ f → skF f (gs.flatten ++ r) n = (n + gs.flatten.length, true) := by
    intro gs
    induction gs with
    | nil =>
      intro f n _ hf
      obtain ⟨f, rfl⟩ : ∃ k, f = k + 1 := ⟨f - 1, by simp at hf; omega⟩
      exact skF_end f r n hr
    | cons g gs ih =>
      intro f n h hf
      obtain ⟨h0, h1⟩ := h g (by simp)
      have hl : g.length ≠ 0 := fun e => h0 (List.eq_nil_of_length_eq_zero e)
      rw [List.flatten_cons, List.length_append] at hf
      obtain ⟨f, rfl⟩ : ∃ k, f = k + 1 := ⟨f - 1, by omega⟩
      rw [List.flatten_cons, List.append_assoc, skF_more (n + g.length) f g _ n (h1 _) h0 rfl, ih f _ (fun q hq => h q (by simp [hq])) (by omega)]
      rw [List.length_append]; congr 1; omega
  unfold sk
  rw [main gs _ 0 hg (by simp), Nat.zero_add]
theorem white_piece {d : UInt8} (hd : whiteB d = true) : [d] ≠ [] ∧ ∀ r, gapR ([d] ++ r) = ([d].length, true) :=
  ⟨by simp, fun r => gap_white d r (by rcases white_cases hd with rfl | rfl | rfl | rfl <;> decide)⟩
def com1 : Bs := [123, 45, 32, 120, 32, 123, 45, 32, 121, 32, 45, 125, 32, 45, 45, 32, 45, 125]
def com2 : Bs := [123, 45, 45, 125]
theorem comF_s (f : Nat) (d : Int) (l : Bs) (n : Nat) : comF (f + 1) d l n =
    if l = [] then none
    else if [123, 45].isPrefixOf l then (if d + 1 = 0 then some (n + 2) else comF f (d + 1) (l.drop 2) (n + 2))
    else if [45, 125].isPrefixOf l then (if d - 1 = 0 then some (n + 2) else comF f (d - 1) (l.drop 2) (n + 2))
    else (if d = 0 then some (n + 1) else comF f d (l.drop 1) (n + 1)) := rfl
theorem com1_piece : com1 ≠ [] ∧ ∀ r, gapR (com1 ++ r) = (com1.length, true) := by
  refine ⟨by decide, fun r => ?_⟩
  show comR (com1 ++ r) = (18, true)
  have : comN (com1 ++ r) = some 18 := by
    show comF ((com1 ++ r).length + 1) 0 (com1 ++ r) 0 = some 18
    have hl : (com1 ++ r).length + 1 = r.length + 19 := by simp [com1]
    rw [hl]
    rfl
  unfold comR; rw [this]
theorem com2_piece : com2 ≠ [] ∧ ∀ r, gapR (com2 ++ r) = (com2.length, true) := by
  refine ⟨by decide, fun r => ?_⟩
  show comR (com2 ++ r) = (4, true)
  have : comN (com2 ++ r) = some 4 := by
    show comF ((com2 ++ r).length + 1) 0 (com2 ++ r) 0 = some 4
    have hl : (com2 ++ r).length + 1 = r.length + 5 := by simp [com2]
    rw [hl]
    rfl
  unfold comR; rw [this]
/-- a comment up to the line's end; the line feed follows -/
theorem line_gap (f : Nat) (r : Bs) (n : Nat) : skF (f + 2) ([45, 45, 32, 122, 10] ++ r) n = skF f r (n + 5) := by
  rw [skF_st2, show gapR ([45, 45, 32, 122, 10] ++ r) = (4, true) from rfl, if_neg (by simp)]
  show skF (f + 1) (10 :: r) (n + 4) = _
  rw [skF_st2, show gapR (10 :: r) = (1, true) from rfl, if_neg (by simp)]
  rfl
/-- the separators of the statement -/
def sepsL : List Bs := [[32], [10], [9, 13, 10], [32] ++ com1 ++ [32], [32, 45, 45, 32, 122, 10], [32] ++ com2]
theorem sepsL_len : sepsL.length = 6 := rfl
theorem sepsL_le : ∀ k : Fin 6, (sepsL.getD k.val []).length ≤ 20 := by decide
theorem sepsL_ok : ∀ k, k < 6 → GapOk (sepsL.getD k [] ++ [32]) ∧ ∃ d y, whiteB d = true ∧ sepsL.getD k [] ++ [32] = d :: y := by
  intro k hk
  have w32 := white_piece (d := 32) (by decide)
  have w10 := white_piece (d := 10) (by decide)
  have w9 := white_piece (d := 9) (by decide)
  have w13 := white_piece (d := 13) (by decide)
  match k, hk with
  | 0, _ => exact ⟨gapOk_white _ (by decide), 32, _, by decide, rfl⟩
  | 1, _ => exact ⟨gapOk_white _ (by decide), 10, _, by decide, rfl⟩
  | 2, _ => exact ⟨gapOk_white _ (by decide), 9, _, by decide, rfl⟩
  | 3, _ =>
    refine ⟨gapOk_pieces [[32], com1, [32], [32]] ?_, 32, _, by decide, rfl⟩
    intro g hg
    simp only [List.mem_cons, List.not_mem_nil, or_false] at hg
    rcases hg with rfl | rfl | rfl | rfl
    · exact w32
    · exact com1_piece
    · exact w32
    · exact w32
  | 4, _ =>
    refine ⟨fun r hr => ?_, 32, _, by decide, rfl⟩
    show skF (([32] ++ ([45, 45, 32, 122, 10] ++ ([32] ++ r))).length + 1) ([32] ++ ([45, 45, 32, 122, 10] ++ ([32] ++ r))) 0 = (7, true)
    have hl : ([32] ++ ([45, 45, 32, 122, 10] ++ ([32] ++ r) : Bs)).length + 1 = r.length + 8 := by simp
    rw [hl, skF_more 1 _ [32] _ 0 (w32.2 _) (by simp) rfl, line_gap, skF_more 7 _ [32] _ 6 (w32.2 _) (by simp) rfl, skF_end _ _ _ hr]
  | 5, _ =>
    refine ⟨gapOk_pieces [[32], com2, [32]] ?_, 32, _, by decide, rfl⟩
    intro g hg
    simp only [List.mem_cons, List.not_mem_nil, or_false] at hg
    rcases hg with rfl | rfl | rfl
    · exact w32
    · exact com2_piece
    · exact w32

/-! sources -/
def segP (p : TR × Bs) : Bs := textB p.1 ++ p.2
def srcP (ps : List (TR × Bs)) : Bs := (ps.map segP).flatten
structure PairOk (p : TR × Bs) : Prop where
  val : valT p.1 = true
  num : p.1.num ≤ 9223372036854775807
  gap : GapOk p.2
  white : ∃ d y, whiteB d = true ∧ p.2 = d :: y
def SameR (t u : TR) : Prop := t.kind = u.kind ∧ t.num = u.num ∧ t.str = u.str
theorem src_cons (p : TR × Bs) (ps : List (TR × Bs)) : srcP (p :: ps) = textB p.1 ++ (p.2 ++ srcP ps) := by simp [srcP, segP]
theorem src_gap (ps : List (TR × Bs)) (h : ∀ p ∈ ps, PairOk p) : gapR (srcP ps) = (0, true) := by
  cases ps with
  | nil => rfl
  | cons p ps =>
    have hp := h p (by simp)
    obtain ⟨d, y, hd, e⟩ := hp.white
    rw [src_cons, e]
    exact gap_text _ (text_ok p.1 hp.val hp.num).1 hd _
theorem scan_src : ∀ (ps : List (TR × Bs)) (g : Bs) (f : Nat) (q : Int × Int) (ts : List Tok), (∀ p ∈ ps, PairOk p) → GapOk g → ps.length + 1 ≤ f → ts.length + ps.length ≤ 16384 →
    ∃ us : List Tok, scF f (g ++ srcP ps) q ts = (ts ++ us, (0, 0), 0) ∧ us.length = ps.length ∧ ∀ (k : Nat) (u : Tok) (p : TR × Bs), us[k]? = some u → ps[k]? = some p → SameR u.1 p.1 := by
  intro ps
  induction ps with
  | nil =>
    intro g f q ts _ hg hf _
    obtain ⟨f, rfl⟩ : ∃ k, f = k + 1 := ⟨f - 1, by simp at hf; omega⟩
    have hs : sk (g ++ srcP []) = (g.length, true) := hg [] rfl
    refine ⟨[], ?_, rfl, fun k u p hu => by simp at hu⟩
    rw [scF_step, hs, if_neg (by simp), if_pos (by simp [srcP])]
    simp
  | cons p ps ih =>
    intro g f q ts h hg hf ht
    obtain ⟨f, rfl⟩ : ∃ k, f = k + 1 := ⟨f - 1, by simp at hf; omega⟩
    have hp := h p (by simp)
    have hps : ∀ x ∈ ps, PairOk x := fun x hx => h x (by simp [hx])
    obtain ⟨d, y, hd, e⟩ := hp.white
    have hs : sk (g ++ srcP (p :: ps)) = (g.length, true) := hg _ (src_gap _ h)
    obtain ⟨it, i1, i2, i3, i4, i5, i6, i7⟩ := item_text p.1 hp.val hp.num hd (y ++ srcP ps)
    have esrc : srcP (p :: ps) = textB p.1 ++ d :: (y ++ srcP ps) := by rw [src_cons, e]; rfl
    have hne : srcP (p :: ps) ≠ [] := by rw [esrc]; intro q; exact i7 (List.append_eq_nil_iff.1 q).1
    have hdrop : (g ++ srcP (p :: ps)).drop g.length = srcP (p :: ps) := List.drop_left
    have e0 : itErr it ts.length = 0 := by unfold itErr; rw [if_neg (fun q => by have := q.2; simp at ht; omega)]; exact i2
    obtain ⟨us, u1, u2, u3⟩ := ih p.2 f (posA (posA q g) ((srcP (p :: ps)).take (textB p.1).length)) (ts ++ [(it, posA q g)]) hps hp.gap (by simp at hf; omega) (by simp at ht ⊢; omega)
    refine ⟨(it, posA q g) :: us, ?_, by simp [u2], ?_⟩
    · rw [scF_step, hs]
      simp only
      rw [if_neg (by simp), hdrop, if_neg hne]
      have hI : itemR (srcP (p :: ps)) = it := by rw [esrc]; exact i1
      have hN : itemN (srcP (p :: ps)) = (textB p.1).length := by rw [esrc]; exact i6
      rw [hI, hN, e0, if_neg (by simp), List.take_left]
      have hd2 : (srcP (p :: ps)).drop (textB p.1).length = p.2 ++ srcP ps := by rw [src_cons]; exact List.drop_left
      rw [hd2, u1, List.append_assoc]; rfl
    · intro k u x hu hx
      cases k with
      | zero => simp at hu hx; subst hu hx; exact ⟨i3, i4, i5⟩
      | succ k => exact u3 k u x (by simpa using hu) (by simpa using hx)
theorem src_len (ps : List (TR × Bs)) (h : ∀ p ∈ ps, PairOk p) (h2 : ∀ p ∈ ps, p.2.length ≤ 21) : (srcP ps).length ≤ 85 * ps.length ∧ ps.length ≤ (srcP ps).length := by
  induction ps with
  | nil => simp [srcP]
  | cons p ps ih =>
    have hp := h p (by simp)
    obtain ⟨d, y, hd, e⟩ := hp.white
    have hl := h2 p (by simp)
    have := ih (fun x hx => h x (by simp [hx])) (fun x hx => h2 x (by simp [hx]))
    have ht := (text_ok p.1 hp.val hp.num).2
    have : 1 ≤ p.2.length := by rw [e]; simp
    rw [src_cons, List.length_append, List.length_append, List.length_cons]; omega
theorem scan_pairs (ps : List (TR × Bs)) (h : ∀ p ∈ ps, PairOk p) (h2 : ∀ p ∈ ps, p.2.length ≤ 21) (hl : ps.length ≤ 40) :
    ∃ us : List Tok, scan (srcP ps) = (us, (0, 0), 0) ∧ us.length = ps.length ∧ ∀ (k : Nat) (u : Tok) (p : TR × Bs), us[k]? = some u → ps[k]? = some p → SameR u.1 p.1 := by
  have hlen := src_len ps h h2
  obtain ⟨us, u1, u2, u3⟩ := scan_src ps [] ((srcP ps).length + 1) (1, 1) [] h gapOk_nil (by omega) (by simp; omega)
  refine ⟨us, ?_, u2, u3⟩
  unfold scan
  rw [if_neg (by omega)]
  simpa using u1

end Go.Proofs.YtbegenmhfmpgpaaDoor.M
