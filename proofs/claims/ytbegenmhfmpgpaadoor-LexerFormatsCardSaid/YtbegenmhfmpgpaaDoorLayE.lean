/- The sources of LayoutSeparates on the model: lines of one name, in column 1 or further right. No program in it. -/
import Derived.Test.YtbegenmhfmpgpaaDoorLayS
namespace Go.Proofs.YtbegenmhfmpgpaaDoor.M
open Go

theorem skF_st2 (f : Nat) (l : Bs) (n : Nat) : skF (f + 1) l n = if (gapR l).2 = false ∨ (gapR l).1 = 0 then (n, (gapR l).2) else skF f (l.drop (gapR l).1) (n + (gapR l).1) := rfl
theorem gap_white (c : UInt8) (r : Bs) (h : c.toNat = 32 ∨ c.toNat = 9 ∨ c.toNat = 13 ∨ c.toNat = 10) : gapR (c :: r) = (1, true) := by
  unfold gapR; simp only; rw [if_pos h]
/-- white bytes are passed one by one -/
theorem skF_white (ws : Bs) : ∀ (f n : Nat) (r : Bs), (∀ c ∈ ws, c.toNat = 32 ∨ c.toNat = 9 ∨ c.toNat = 13 ∨ c.toNat = 10) → gapR r = (0, true) → ws.length + 1 ≤ f → skF f (ws ++ r) n = (n + ws.length, true) := by
  induction ws with
  | nil =>
    intro f n r _ hr hf
    obtain ⟨f, rfl⟩ : ∃ g, f = g + 1 := ⟨f - 1, by simp at hf; omega⟩
    rw [List.nil_append, skF_st2, hr, if_pos (.inr rfl)]; rfl
  | cons c ws ih =>
    intro f n r hw hr hf
    obtain ⟨f, rfl⟩ : ∃ g, f = g + 1 := ⟨f - 1, by simp at hf; omega⟩
    rw [List.cons_append, skF_st2, gap_white c _ (hw c (by simp)), if_neg (by decide)]
    show skF f (ws ++ r) (n + 1) = _
    rw [ih f (n + 1) r (fun d hd => hw d (by simp [hd])) hr (by simp at hf; omega)]
    simp; omega
theorem sk_white (ws r : Bs) (hw : ∀ c ∈ ws, c.toNat = 32 ∨ c.toNat = 9 ∨ c.toNat = 13 ∨ c.toNat = 10) (hr : gapR r = (0, true)) : sk (ws ++ r) = (ws.length, true) := by
  unfold sk
  rw [skF_white ws _ 0 r hw hr (by simp), Nat.zero_add]
/-- one more token -/
theorem scF_tok (f : Nat) (ws r : Bs) (p : Int × Int) (ts : List Tok) (it : TR) (n : Nat) (hw : ∀ c ∈ ws, c.toNat = 32 ∨ c.toNat = 9 ∨ c.toNat = 13 ∨ c.toNat = 10)
    (hr : gapR r = (0, true)) (hne : r ≠ []) (hi : itemR r = it) (he : it.err = 0) (hn : itemN r = n) (ht : ts.length ≠ 16384) :
    scF (f + 1) (ws ++ r) p ts = scF f (r.drop n) (posA (posA p ws) (r.take n)) (ts ++ [(it, posA p ws)]) := by
  rw [scF_step, sk_white ws r hw hr, if_neg (by simp)]
  simp only [List.drop_left, List.take_left]
  rw [if_neg hne, hi, hn]
  have : itErr it ts.length = 0 := by unfold itErr; rw [if_neg (fun q => ht q.2)]; exact he
  rw [this, if_neg (by simp)]
theorem scF_end (f : Nat) (p : Int × Int) (ts : List Tok) : scF (f + 1) [] p ts = (ts, (0, 0), 0) := rfl

def xT (p : Int × Int) : Tok := (⟨1, 0, [120], 0⟩, p)
def segB (d : Nat) : Bs := 10 :: (List.replicate d 32 ++ [120])
def sepSrc (ds : List Nat) : Bs := 120 :: ds.flatMap segB
def sepWant (ds : List Nat) : Bs := [79, 46] ++ ds.flatMap fun d => if d = 0 then [83, 46] else [46]
def sepToks : Int → List Nat → List Tok
  | _, [] => []
  | l, d :: r => xT (l + 1, (d : Int) + 1) :: sepToks (l + 1) r
theorem posA_spaces (d : Nat) : ∀ (l c : Int), posA (l, c) (List.replicate d 32) = (l, c + d) := by
  induction d with
  | zero => intro l c; simp [posA]
  | succ d ih =>
    intro l c
    rw [List.replicate_succ]
    show posA (stepP (l, c) 32) (List.replicate d 32) = _
    rw [show stepP (l, c) 32 = (l, c + 1) from rfl, ih]
    simp; omega
theorem posA_line (d : Nat) (l c : Int) : posA (l, c) (10 :: List.replicate d 32) = (l + 1, (d : Int) + 1) := by
  show posA (stepP (l, c) 10) (List.replicate d 32) = _
  rw [show stepP (l, c) 10 = (l + 1, 1) from rfl, posA_spaces]
  simp; omega
theorem item_x (ds : List Nat) : itemR (120 :: ds.flatMap segB) = ⟨1, 0, [120], 0⟩ ∧ itemN (120 :: ds.flatMap segB) = 1 := by
  cases ds with
  | nil => exact ⟨rfl, rfl⟩
  | cons d r => exact ⟨rfl, rfl⟩
theorem sep_scan : ∀ (ds : List Nat) (f : Nat) (l c : Int) (ts : List Tok), ds.length + 1 ≤ f → ts.length + ds.length ≤ 16384 → scF f (ds.flatMap segB) (l, c) ts = (ts ++ sepToks l ds, (0, 0), 0) := by
  intro ds
  induction ds with
  | nil =>
    intro f l c ts hf _
    obtain ⟨f, rfl⟩ : ∃ g, f = g + 1 := ⟨f - 1, by simp at hf; omega⟩
    rw [show ([] : List Nat).flatMap segB = [] from rfl, scF_end]; simp [sepToks]
  | cons d r ih =>
    intro f l c ts hf ht
    obtain ⟨f, rfl⟩ : ∃ g, f = g + 1 := ⟨f - 1, by simp at hf; omega⟩
    obtain ⟨h1, h2⟩ := item_x r
    have hsp : (d :: r).flatMap segB = (10 :: List.replicate d 32) ++ (120 :: r.flatMap segB) := by simp [segB, List.flatMap_cons]
    rw [hsp, scF_tok f (10 :: List.replicate d 32) (120 :: r.flatMap segB) (l, c) ts _ _ ?_ rfl (by simp) h1 rfl h2 (by simp at ht; omega), posA_line]
    · show scF f (r.flatMap segB) (posA (l + 1, (d : Int) + 1) [120]) _ = _
      rw [show posA (l + 1, (d : Int) + 1) [120] = (l + 1, (d : Int) + 1 + 1) from rfl, ih f _ _ _ (by simp at hf; omega) (by simp at ht ⊢; omega)]
      simp [sepToks, xT]
    · intro c hc
      rcases List.mem_cons.1 hc with rfl | hc
      · decide
      · rw [List.eq_of_mem_replicate hc]; decide
theorem segB_len (d : Nat) : (segB d).length = d + 2 := by simp [segB]
theorem seg_cons (d : Nat) (r : List Nat) : ((d :: r).flatMap segB).length = d + 2 + (r.flatMap segB).length := by rw [List.flatMap_cons, List.length_append, segB_len]
theorem seg_len (ds : List Nat) (h : ∀ d ∈ ds, d ≤ 6) : (ds.flatMap segB).length ≤ 8 * ds.length := by
  induction ds with
  | nil => simp
  | cons d r ih =>
    have h1 := h d (by simp)
    have := ih (fun e he => h e (by simp [he]))
    rw [seg_cons, List.length_cons]; omega
theorem sep_toks (ds : List Nat) (hd : ds.length ≤ 30) (h6 : ∀ d ∈ ds, d ≤ 6) : scan (sepSrc ds) = (xT (1, 1) :: sepToks 1 ds, (0, 0), 0) := by
  have hl := seg_len ds h6
  have hge : ds.length + 1 ≤ (ds.flatMap segB).length + 1 := by
    have : ∀ ds : List Nat, ds.length ≤ (ds.flatMap segB).length := by
      intro ds
      induction ds with
      | nil => simp
      | cons d r ih => rw [seg_cons, List.length_cons]; omega
    have := this ds; omega
  obtain ⟨h1, h2⟩ := item_x ds
  unfold scan sepSrc
  rw [if_neg (by rw [List.length_cons]; omega)]
  have := scF_tok ((ds.flatMap segB).length + 1) [] (120 :: ds.flatMap segB) (1, 1) [] _ _ (by simp) rfl (by simp) h1 rfl h2 (by decide)
  rw [List.nil_append] at this
  rw [List.length_cons, this]
  show scF _ (ds.flatMap segB) (posA (1, 1) [120]) _ = _
  rw [show posA (1, 1) [120] = (1, 2) from rfl, sep_scan ds _ 1 2 _ hge (by simp; omega)]
  rfl

theorem val_x : valT ⟨1, 0, [120], 0⟩ = true := by decide
def SepAt (l : Int) (s : LSt) (w : Bs) : Prop := s.cols = [1] ∧ s.last.1 = l ∧ s.last ≠ (0, 0) ∧ s.item = (0, 0) ∧ s.line = (0, 0) ∧ kindsB s.out = w
theorem kinds_app (a b : List Tok) : kindsB (a ++ b) = kindsB a ++ kindsB b := by simp [kindsB]
theorem sep_add (l : Int) (hl : 1 ≤ l) (s : LSt) (w : Bs) (d : Nat) (h : SepAt l s w) :
    (addL s (xT (l + 1, (d : Int) + 1))).1 = 0 ∧ SepAt (l + 1) (addL s (xT (l + 1, (d : Int) + 1))).2 (w ++ if d = 0 then [83, 46] else [46]) := by
  obtain ⟨out, cols, ⟨la, lb⟩, it, li⟩ := s
  obtain ⟨h1, h2, h3, h4, h5, h6⟩ := h
  simp only at h1 h2 h3 h4 h5 h6
  subst h1 h2 h4 h5
  have ha : isAft (la + 1, (d : Int) + 1) (la, lb) = true := by unfold isAft; simp; exact ⟨by omega, by omega, .inl (by omega)⟩
  unfold addL xT
  simp only
  rw [val_x, ha, if_neg (by decide), if_neg h3, if_neg (fun q => q rfl), if_neg (fun q => q.2 rfl)]
  refine ⟨rfl, ?_⟩
  have hd : decide (la < la + 1) = true := decide_eq_true (by omega)
  rw [hd]
  have hp : procL out [1] (⟨1, 0, [120], 0⟩, (la + 1, (d : Int) + 1)) true = if d = 0 then (out ++ [mkT 6 (la + 1, (d : Int) + 1)], [1]) else (out, [1]) := by
    unfold procL procE popS
    simp only
    rw [if_pos trivial, show popC ((d : Int) + 1) (la + 1, (d : Int) + 1) out [1] = (out, [1]) from by unfold popC; rw [if_neg (by omega)]]
    rw [if_neg (show ¬ closB ⟨1, 0, [120], 0⟩ = true by decide)]
    by_cases h0 : d = 0
    · subst h0; rw [if_pos ⟨trivial, rfl⟩, if_pos rfl]
    · rw [if_neg (fun q => h0 (by have := q.2; simp at this; omega)), if_neg h0]
  rw [hp]
  by_cases h0 : d = 0
  · rw [if_pos h0, if_pos h0]
    refine ⟨rfl, rfl, ?_, rfl, rfl, ?_⟩
    · intro q; have q1 : la + 1 = 0 := congrArg Prod.fst q; omega
    · show kindsB ((out ++ [mkT 6 _]) ++ [_]) = _
      rw [kinds_app, kinds_app, h6]
      simp [kindsB, mkT, letterK]
  · rw [if_neg h0, if_neg h0]
    refine ⟨rfl, rfl, ?_, rfl, rfl, ?_⟩
    · intro q; have q1 : la + 1 = 0 := congrArg Prod.fst q; omega
    · show kindsB (out ++ [_]) = _
      rw [kinds_app, h6]
      simp [kindsB, letterK]
theorem sep_ins : ∀ (ds : List Nat) (l : Int) (s : LSt) (w : Bs), 1 ≤ l → SepAt l s w → (insF s (sepToks l ds)).2.2 = 0 ∧ kindsB (insF s (sepToks l ds)).1 = (w ++ ds.flatMap fun d => if d = 0 then [83, 46] else [46]) ++ [67] := by
  intro ds
  induction ds with
  | nil =>
    intro l s w _ h
    obtain ⟨h1, h2, h3, h4, h5, h6⟩ := h
    show (endL s).2.2 = 0 ∧ kindsB (endL s).1 = _
    unfold endL
    rw [if_neg (fun q => q h5), if_neg (fun q => q h4)]
    refine ⟨rfl, ?_⟩
    simp only
    rw [kinds_app, h6, h1]
    simp [kindsB, mkT, letterK]
  | cons d r ih =>
    intro l s w hl h
    obtain ⟨h1, h2⟩ := sep_add l hl s w d h
    show (insF s (xT (l + 1, (d : Int) + 1) :: sepToks (l + 1) r)).2.2 = 0 ∧ kindsB (insF s (xT (l + 1, (d : Int) + 1) :: sepToks (l + 1) r)).1 = _
    rw [insF_cons, if_neg (fun q => q h1)]
    have := ih (l + 1) _ _ (by omega) h2
    refine ⟨this.1, ?_⟩
    rw [this.2, List.flatMap_cons, List.append_assoc w]
theorem sep_ok (ds : List Nat) (hd : ds.length ≤ 30) (h6 : ∀ d ∈ ds, d ≤ 6) : (insL (scan (sepSrc ds)).1).2.2 = 0 ∧ kindsB (insL (scan (sepSrc ds)).1).1 = sepWant ds ++ [67] := by
  rw [sep_toks ds hd h6]
  show (insF startL (xT (1, 1) :: sepToks 1 ds)).2.2 = 0 ∧ kindsB (insF startL (xT (1, 1) :: sepToks 1 ds)).1 = _
  have h0 : addL startL (xT (1, 1)) = (0, ⟨[mkT 5 (1, 1), xT (1, 1)], [1], (1, 1), (0, 0), (0, 0)⟩) := by rfl
  rw [insF_cons, h0, if_neg (fun q => q rfl)]
  exact sep_ins ds 1 _ [79, 46] (by decide) ⟨rfl, rfl, by decide, rfl, rfl, rfl⟩

end Go.Proofs.YtbegenmhfmpgpaaDoor.M
