/- The model of Format: the tokens' texts with a space between them, and that they are scanned as these tokens. No program in it. -/
import Derived.Test.YtbegenmhfmpgpaaDoorTokM
import Derived.Lib.ItoaNum
namespace Go.Proofs.YtbegenmhfmpgpaaDoor.M
open Go

theorem src_snoc (ps : List (TR × Bs)) (p : TR × Bs) : srcP (ps ++ [p]) = srcP ps ++ segP p := by simp [srcP]
def spaced (ts : List TR) : List (TR × Bs) := ts.map fun t => (t, [32])
def lastB (ts : List TR) : Bs := match ts.getLast? with
  | some t => textB t
  | none => []
def fmtB (ts : List TR) : Bs := srcP (spaced ts.dropLast) ++ lastB ts
theorem fmt_nil : fmtB [] = [] := rfl
theorem fmt_snoc0 (ts : List TR) (t : TR) : fmtB (ts ++ [t]) = srcP (spaced ts) ++ textB t := by
  unfold fmtB lastB
  rw [List.dropLast_concat, List.getLast?_concat]
theorem fmt_snoc (ts : List TR) (t : TR) : fmtB (ts ++ [t]) = (if ts = [] then [] else fmtB ts ++ [32]) ++ textB t := by
  rw [fmt_snoc0]
  congr 1
  rcases List.eq_nil_or_concat ts with rfl | ⟨us, u, rfl⟩
  · rfl
  · rw [if_neg (by simp), List.concat_eq_append, fmt_snoc0]
    simp [spaced, src_snoc, segP]
def fmtL (ts : List TR) : Bs := if ts.all valT then fmtB ts else []

/-! scanned -/
theorem item_end (t : TR) (hv : valT t = true) (hn : t.num ≤ 9223372036854775807) :
    ∃ it : TR, itemR (textB t) = it ∧ it.err = 0 ∧ it.kind = t.kind ∧ it.num = t.num ∧ it.str = t.str ∧ itemN (textB t) = (textB t).length ∧ textB t ≠ [] := by
  have hd : whiteB 32 = true := by decide
  obtain ⟨it, h1, h2, h3, h4, h5, h6, h7⟩ := item_text t hv hn hd []
  rw [itemR_ws hd _ _ h7] at h1
  rw [itemN_ws hd _ _ h7] at h6
  exact ⟨it, h1, h2, h3, h4, h5, h6, h7⟩
theorem gap_end (s : Bs) (h : textOk s = true) : gapR s = (0, true) := by
  match s, h with
  | [a], h =>
    have h : (!(whiteB a)) = true := h
    have w1 : ¬ (a.toNat = 32 ∨ a.toNat = 9 ∨ a.toNat = 13 ∨ a.toNat = 10) := by
      rintro (q | q | q | q) <;> simp [whiteB, q] at h
    unfold gapR
    simp only
    rw [if_neg w1, if_neg, if_neg]
    · rintro ⟨_, q2⟩; simp [List.isPrefixOf] at q2
    · rintro ⟨_, q2⟩; simp [List.isPrefixOf] at q2
  | a :: b :: r, h => exact gap_item a b r h
theorem scan_fmt (t : TR) (hv : valT t = true) (hn : t.num ≤ 9223372036854775807) : ∀ (ps : List (TR × Bs)) (g : Bs) (f : Nat) (q : Int × Int) (ts : List Tok), (∀ p ∈ ps, PairOk p) → GapOk g → ps.length + 2 ≤ f → ts.length + ps.length + 1 ≤ 16384 →
    ∃ us : List Tok, scF f (g ++ (srcP ps ++ textB t)) q ts = (ts ++ us, (0, 0), 0) ∧ us.length = ps.length + 1 ∧ ∀ (k : Nat) (u : Tok) (x : TR), us[k]? = some u → (ps.map (·.1) ++ [t])[k]? = some x → SameR u.1 x := by
  intro ps
  induction ps with
  | nil =>
    intro g f q ts _ hg hf ht
    obtain ⟨f, rfl⟩ : ∃ k, f = k + 2 := ⟨f - 2, by simp at hf; omega⟩
    obtain ⟨it, i1, i2, i3, i4, i5, i6, i7⟩ := item_end t hv hn
    have e : (srcP [] ++ textB t : Bs) = textB t := by simp [srcP]
    rw [e]
    have hs : sk (g ++ textB t) = (g.length, true) := hg _ (gap_end _ (text_ok t hv hn).1)
    have hdrop : (g ++ textB t).drop g.length = textB t := List.drop_left
    have e0 : itErr it ts.length = 0 := by unfold itErr; rw [if_neg (fun q => by have := q.2; simp at ht; omega)]; exact i2
    refine ⟨[(it, posA q g)], ?_, rfl, ?_⟩
    · rw [scF_step, hs]
      simp only
      rw [if_neg (by simp), hdrop, if_neg i7, i1, i6, e0, if_neg (by simp), List.take_left, List.drop_length]
      exact scF_end _ _ _
    · intro k u x hu hx
      cases k with
      | zero => simp at hu hx; subst hu hx; exact ⟨i3, i4, i5⟩
      | succ k => simp at hu
  | cons p ps ih =>
    intro g f q ts h hg hf ht
    obtain ⟨f, rfl⟩ : ∃ k, f = k + 1 := ⟨f - 1, by simp at hf; omega⟩
    have hp := h p (by simp)
    have hps : ∀ x ∈ ps, PairOk x := fun x hx => h x (by simp [hx])
    obtain ⟨d, y, hd, e⟩ := hp.white
    have esrc : srcP (p :: ps) ++ textB t = textB p.1 ++ (p.2 ++ (srcP ps ++ textB t)) := by rw [src_cons]; simp
    have esrc2 : srcP (p :: ps) ++ textB t = textB p.1 ++ d :: (y ++ (srcP ps ++ textB t)) := by rw [esrc, e]; rfl
    obtain ⟨it, i1, i2, i3, i4, i5, i6, i7⟩ := item_text p.1 hp.val hp.num hd (y ++ (srcP ps ++ textB t))
    have hs : sk (g ++ (srcP (p :: ps) ++ textB t)) = (g.length, true) := hg _ (by rw [esrc2]; exact gap_text _ (text_ok p.1 hp.val hp.num).1 hd _)
    have hne : srcP (p :: ps) ++ textB t ≠ [] := by rw [esrc]; intro q; exact i7 (List.append_eq_nil_iff.1 q).1
    have hdrop : (g ++ (srcP (p :: ps) ++ textB t)).drop g.length = srcP (p :: ps) ++ textB t := List.drop_left
    have e0 : itErr it ts.length = 0 := by unfold itErr; rw [if_neg (fun q => by have := q.2; simp at ht; omega)]; exact i2
    obtain ⟨us, u1, u2, u3⟩ := ih p.2 f (posA (posA q g) ((srcP (p :: ps) ++ textB t).take (textB p.1).length)) (ts ++ [(it, posA q g)]) hps hp.gap (by simp at hf; omega) (by simp at ht ⊢; omega)
    refine ⟨(it, posA q g) :: us, ?_, by simp [u2], ?_⟩
    · rw [scF_step, hs]
      simp only
      rw [if_neg (by simp), hdrop, if_neg hne]
      have hI : itemR (srcP (p :: ps) ++ textB t) = it := by rw [esrc2]; exact i1
      have hN : itemN (srcP (p :: ps) ++ textB t) = (textB p.1).length := by rw [esrc2]; exact i6
      rw [hI, hN, e0, if_neg (by simp), List.take_left]
      have hd2 : (srcP (p :: ps) ++ textB t).drop (textB p.1).length = p.2 ++ (srcP ps ++ textB t) := by rw [esrc]; exact List.drop_left
      rw [hd2, u1, List.append_assoc]; rfl
    · intro k u x hu hx
      cases k with
      | zero => simp at hu hx; subst hu hx; exact ⟨i3, i4, i5⟩
      | succ k => exact u3 k u x (by simpa using hu) (by simpa using hx)
theorem spaced_ok (ts : List TR) (h : ∀ t ∈ ts, valT t = true ∧ t.num ≤ 9223372036854775807) : ∀ p ∈ spaced ts, PairOk p := by
  intro p hp
  obtain ⟨t, ht, rfl⟩ := List.mem_map.1 hp
  exact ⟨(h t ht).1, (h t ht).2, gapOk_white [32] (by decide), 32, [], by decide, rfl⟩
theorem spaced_len (ts : List TR) : (spaced ts).length = ts.length := by simp [spaced]
theorem fmt_len (ts : List TR) (h : ∀ t ∈ ts, valT t = true ∧ t.num ≤ 9223372036854775807) : (fmtB ts).length ≤ 85 * ts.length := by
  rcases List.eq_nil_or_concat ts with rfl | ⟨us, u, rfl⟩
  · simp [fmt_nil]
  · rw [List.concat_eq_append] at h ⊢
    rw [fmt_snoc0, List.length_append, List.length_append]
    have h1 := (src_len (spaced us) (spaced_ok us fun t ht => h t (by simp [ht])) (fun p hp => by obtain ⟨t, _, rfl⟩ := List.mem_map.1 hp; simp)).1
    rw [spaced_len] at h1
    have hu := h u (by simp)
    have := (text_ok u hu.1 hu.2).2
    simp; omega
/-- formatted tokens are read back -/
theorem fmt_scan (ts : List TR) (h : ∀ t ∈ ts, valT t = true ∧ t.num ≤ 9223372036854775807) (hl : ts.length ≤ 40) :
    ∃ us : List Tok, scan (fmtB ts) = (us, (0, 0), 0) ∧ us.length = ts.length ∧ ∀ (k : Nat) (u : Tok) (x : TR), us[k]? = some u → ts[k]? = some x → SameR u.1 x := by
  have hlen := fmt_len ts h
  rcases List.eq_nil_or_concat ts with rfl | ⟨us, u, rfl⟩
  · exact ⟨[], rfl, rfl, fun k u x hu => by simp at hu⟩
  · rw [List.concat_eq_append] at h hl hlen ⊢
    have hu := h u (by simp)
    have hsp := spaced_ok us fun t ht => h t (by simp [ht])
    have hpos : us.length + 1 ≤ (fmtB (us ++ [u])).length := by
      rw [fmt_snoc0, List.length_append]
      have h1 := (src_len (spaced us) hsp (fun p hp => by obtain ⟨t, _, rfl⟩ := List.mem_map.1 hp; simp)).2
      rw [spaced_len] at h1
      obtain ⟨it, _, _, _, _, _, _, i7⟩ := item_end u hu.1 hu.2
      have : (textB u).length ≠ 0 := fun e => i7 (List.eq_nil_of_length_eq_zero e)
      omega
    obtain ⟨os, o1, o2, o3⟩ := scan_fmt u hu.1 hu.2 (spaced us) [] ((fmtB (us ++ [u])).length + 1) (1, 1) [] hsp gapOk_nil (by rw [spaced_len]; omega) (by rw [spaced_len]; simp at hl ⊢; omega)
    refine ⟨os, ?_, by rw [o2, spaced_len]; simp, fun k x t hx ht => o3 k x t hx (by simpa [spaced, Function.comp_def] using ht)⟩
    unfold scan
    rw [if_neg (by omega)]
    rw [← fmt_snoc0] at o1
    simpa using o1

/-! decimal digits, as the library has them -/
theorem decF_dec : ∀ (f m : Nat) (acc : Bs), m < 10 ^ f → decF f m acc = (if m = 0 then [] else Lib.decDigits m) ++ acc := by
  intro f
  induction f with
  | zero => intro m acc h; have : m = 0 := by simpa using h
            subst this; rfl
  | succ f ih =>
    intro m acc h
    unfold decF
    by_cases h0 : m = 0
    · rw [if_pos h0, if_pos h0]; rfl
    · rw [if_neg h0, if_neg h0, ih (m / 10) _ (by rw [Nat.pow_succ] at h; omega)]
      by_cases h1 : m < 10
      · rw [if_pos (by omega), Lib.decDigits_one h1, show m % 10 = m by omega]; rfl
      · rw [if_neg (by omega), show Lib.decDigits m = Lib.decDigits (m / 10) ++ [UInt8.ofNat (48 + m % 10)] from by rw [Lib.decDigits, dif_neg h1]]
        simp [dig]
theorem decB_itoa (n : Nat) (hn : n ≤ 9223372036854775807) : Lib.itoa (n : Int) = decB n := by
  have h10 : n / 10 < 10 ^ 20 := by have : (10 : Nat) ^ 20 = 100000000000000000000 := by decide
                                    omega
  unfold Lib.itoa decB
  rw [if_neg (by omega), decF_dec 20 _ _ h10, Int.toNat_natCast]
  by_cases h1 : n < 10
  · rw [if_pos (by omega), Lib.decDigits_one h1, show n % 10 = n by omega]; rfl
  · rw [if_neg (by omega), show Lib.decDigits n = Lib.decDigits (n / 10) ++ [UInt8.ofNat (48 + n % 10)] from by rw [Lib.decDigits, dif_neg h1]]
    rfl

end Go.Proofs.YtbegenmhfmpgpaaDoor.M
