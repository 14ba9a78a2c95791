/- Lines before a source shift the positions that Insert returns and nothing else. No program in it. -/
import Derived.Test.YtebfnlahiodefaaDoorLayM
namespace Go.Proofs.YtebfnlahiodefaaDoor.M
open Go

def shP (k : Int) (p : Int × Int) : Int × Int := if p = (0, 0) then (0, 0) else (p.1 + k, p.2)
def shT (k : Int) (t : Tok) : Tok := (t.1, shP k t.2)
def Pok (p : Int × Int) : Prop := p = (0, 0) ∨ 1 ≤ p.1

theorem shP_pos {k : Int} {p : Int × Int} (h : 1 ≤ p.1) : shP k p = (p.1 + k, p.2) := by
  unfold shP; rw [if_neg (by intro e; rw [e] at h; exact absurd h (by decide))]
theorem shP_zero {k : Int} (hk : 0 ≤ k) {p : Int × Int} (h : Pok p) : shP k p = (0, 0) ↔ p = (0, 0) := by
  unfold shP
  by_cases e : p = (0, 0)
  · rw [if_pos e]; exact ⟨fun _ => e, fun _ => rfl⟩
  · rw [if_neg e]
    rcases h with h | h
    · exact absurd h e
    · constructor
      · intro e2; have := congrArg Prod.fst e2; simp at this; omega
      · intro e2; exact absurd e2 e
theorem isAft_sh {k : Int} (hk : 0 ≤ k) {p q : Int × Int} (hp : 1 ≤ p.1) (hq : Pok q) : isAft (shP k p) (shP k q) = isAft p q := by
  rw [shP_pos hp]
  unfold isAft
  rcases hq with rfl | hq
  · have e : shP k (0, 0) = (0, 0) := by unfold shP; rw [if_pos rfl]
    rw [e]
    rw [Bool.eq_iff_iff]; simp; omega
  · rw [shP_pos hq]
    rw [Bool.eq_iff_iff]; simp; omega

def hd0 : Tok := mkT 5 (1, 1)
def OutSh (k : Int) (a b : List Tok) : Prop := ∃ r, a = hd0 :: r ∧ b = hd0 :: r.map (shT k)
structure Sh (k : Int) (s s' : LSt) : Prop where
  out : OutSh k s.out s'.out
  cols : s'.cols = s.cols
  last : s'.last = shP k s.last
  item : s'.item = shP k s.item
  line : s'.line = shP k s.line
  plast : Pok s.last
  pitem : Pok s.item
  pline : Pok s.line

theorem OutSh.snoc {k : Int} {a b : List Tok} (h : OutSh k a b) (x : List Tok) : OutSh k (a ++ x) (b ++ x.map (shT k)) := by
  obtain ⟨r, rfl, rfl⟩ := h
  exact ⟨r ++ x, rfl, by simp⟩
theorem popC_sh {k : Int} (c : Int) (p : Int × Int) : ∀ (cols : List Int) (a b : List Tok), OutSh k a b →
    OutSh k (popC c p a cols).1 (popC c (shP k p) b cols).1 ∧ (popC c (shP k p) b cols).2 = (popC c p a cols).2 := by
  intro cols
  induction cols with
  | nil => intro a b h; exact ⟨h, rfl⟩
  | cons x r ih =>
    intro a b h
    unfold popC
    by_cases hx : c < x
    · rw [if_pos hx, if_pos hx]
      exact ih _ _ (h.snoc [mkT 7 p])
    · rw [if_neg hx, if_neg hx]
      exact ⟨h, rfl⟩
theorem shT_col {k : Int} {t : Tok} (ht : 1 ≤ t.2.1) : (shT k t).2.2 = t.2.2 := by unfold shT; simp only; rw [shP_pos ht]
theorem begL_sh {k : Int} {t : Tok} (ht : 1 ≤ t.2.1) {a b : List Tok} {cols : List Int} (h : OutSh k a b) :
    (begL b cols (shT k t)).1 = (begL a cols t).1 ∧ (begL b cols (shT k t)).2.2 = (begL a cols t).2.2 ∧ OutSh k (begL a cols t).2.1 (begL b cols (shT k t)).2.1 := by
  unfold begL
  rw [shT_col ht]
  have e : (shT k t).1 = t.1 := rfl
  rw [e]
  split
  · exact ⟨rfl, rfl, h.snoc [mkT 5 t.2, mkT 7 t.2]⟩
  · split
    · exact ⟨rfl, rfl, h⟩
    · split
      · exact ⟨rfl, rfl, h⟩
      · exact ⟨rfl, rfl, h.snoc [mkT 5 t.2]⟩
theorem procL_sh {k : Int} {t : Tok} (ht : 1 ≤ t.2.1) {a b : List Tok} {cols : List Int} (st : Bool) (h : OutSh k a b) :
    (procL b cols (shT k t) st).2 = (procL a cols t st).2 ∧ OutSh k (procL a cols t st).1 (procL b cols (shT k t) st).1 := by
  have hp : OutSh k (popS st a cols t).1 (popS st b cols (shT k t)).1 ∧ (popS st b cols (shT k t)).2 = (popS st a cols t).2 := by
    unfold popS
    rw [shT_col ht]
    split
    · exact popC_sh t.2.2 t.2 cols a b h
    · exact ⟨h, rfl⟩
  unfold procL
  generalize popS st a cols t = r at *
  generalize popS st b cols (shT k t) = r' at *
  obtain ⟨r1, r2⟩ := r
  obtain ⟨r1', r2'⟩ := r'
  obtain ⟨h1, h2⟩ := hp
  simp only at h1 h2
  subst h2
  unfold procE
  rw [shT_col ht]
  have e : (shT k t).1 = t.1 := rfl
  rw [e]
  split
  · split
    · exact ⟨rfl, h1.snoc [mkT 7 t.2]⟩
    · exact ⟨rfl, h1⟩
  · split
    · exact ⟨rfl, h1.snoc [mkT 6 t.2]⟩
    · exact ⟨rfl, h1⟩
theorem finL_sh {k : Int} {t : Tok} (ht : 1 ≤ t.2.1) {a b : List Tok} {cols : List Int} {i l : Int × Int} (h : OutSh k a b) (hi : Pok i) (hl : Pok l) :
    Sh k (finL a cols i l t) (finL b cols (shP k i) (shP k l) (shT k t)) := by
  have e : (shT k t).1 = t.1 := rfl
  refine ⟨h.snoc [t], rfl, rfl, ?_, ?_, .inr ht, ?_, ?_⟩
  · unfold finL; simp only; rw [e]; split <;> rfl
  · unfold finL; simp only; rw [e]; split <;> rfl
  · unfold finL; simp only; split
    · exact .inr ht
    · exact hi
  · unfold finL; simp only; split
    · exact .inr ht
    · exact hl
theorem pok0 : Pok (0, 0) := .inl rfl
theorem sh0 (k : Int) : shP k (0, 0) = (0, 0) := by unfold shP; rw [if_pos rfl]
theorem addL_sh {k : Int} (hk : 0 ≤ k) {t : Tok} (ht : 1 ≤ t.2.1) {s s' : LSt} (h : Sh k s s') :
    (addL s' (shT k t)).1 = (addL s t).1 ∧ ((addL s t).1 = 0 → Sh k (addL s t).2 (addL s' (shT k t)).2) := by
  obtain ⟨o1, c1, l1, i1, n1⟩ := s
  obtain ⟨o2, c2, l2, i2, n2⟩ := s'
  obtain ⟨ho, hc, hla, hit, hli, pl, pi, pn⟩ := h
  simp only at ho hc hla hit hli pl pi pn
  subst hc hla hit hli
  unfold addL
  simp only
  have e : (shT k t).1 = t.1 := rfl
  have e2 : (shT k t).2 = shP k t.2 := rfl
  rw [shT_col ht, e, e2, isAft_sh hk ht pl]
  by_cases h1 : (valT t.1 && isAft t.2 l1) = false
  · rw [if_pos h1, if_pos h1]; exact ⟨rfl, fun h => by simp at h⟩
  rw [if_neg h1, if_neg h1]
  by_cases h2 : l1 = (0, 0)
  · rw [if_pos h2, if_pos ((shP_zero hk pl).2 h2)]
    by_cases h3 : t.2.2 ≠ 1
    · rw [if_pos h3, if_pos h3]; exact ⟨rfl, fun h => by simp at h⟩
    · rw [if_neg h3, if_neg h3]; exact ⟨rfl, fun _ => finL_sh ht ho pi pn⟩
  have g2 : ¬ shP k l1 = (0, 0) := fun q => h2 ((shP_zero hk pl).1 q)
  rw [if_neg h2, if_neg g2]
  obtain ⟨b1, b2, b3⟩ := begL_sh ht (cols := c2) ho
  by_cases h3 : i1 ≠ (0, 0)
  · have g3 : shP k i1 ≠ (0, 0) := fun q => h3 ((shP_zero hk pi).1 q)
    rw [if_pos h3, if_pos g3, b1]
    by_cases h4 : (begL o1 c2 t).1 ≠ 0
    · rw [if_pos h4, if_pos h4]; exact ⟨rfl, fun h => absurd h h4⟩
    · rw [if_neg h4, if_neg h4]
      refine ⟨rfl, fun _ => ?_⟩
      simp only
      rw [b2]
      have := finL_sh (cols := (begL o1 c2 t).2.2) ht b3 pok0 pn
      rwa [sh0] at this
  have g3 : ¬ shP k i1 ≠ (0, 0) := fun q => q ((shP_zero hk pi).2 (Classical.byContradiction h3))
  rw [if_neg h3, if_neg g3]
  have hl1 : 1 ≤ l1.1 := by
    rcases pl with h | h
    · exact absurd h h2
    · exact h
  have ed : decide ((shP k l1).1 < (shP k t.2).1) = decide (l1.1 < t.2.1) := by rw [shP_pos ht, shP_pos hl1]; simp
  have ee : ((shP k l1).1 < (shP k t.2).1 ∧ shP k n1 ≠ (0, 0)) ↔ (l1.1 < t.2.1 ∧ n1 ≠ (0, 0)) := by
    rw [shP_pos ht, shP_pos hl1, ne_eq, ne_eq, shP_zero hk pn]; simp
  rw [ed]
  by_cases h5 : l1.1 < t.2.1 ∧ n1 ≠ (0, 0)
  · rw [if_pos h5, if_pos (ee.2 h5), b1]
    by_cases h4 : (begL o1 c2 t).1 ≠ 0
    · rw [if_pos h4, if_pos h4]; exact ⟨rfl, fun h => absurd h h4⟩
    · rw [if_neg h4, if_neg h4]
      refine ⟨rfl, fun _ => ?_⟩
      simp only
      rw [b2]
      have := finL_sh (cols := (begL o1 c2 t).2.2) ht b3 pok0 pok0
      rwa [sh0] at this
  have g5 := fun q => h5 (ee.1 q)
  rw [if_neg h5, if_neg g5]
  obtain ⟨p1, p2⟩ := procL_sh ht (cols := c2) (decide (l1.1 < t.2.1)) ho
  refine ⟨rfl, fun _ => ?_⟩
  simp only
  rw [p1]
  exact finL_sh ht p2 pi pn

/-- what Insert returns on a source and on the shifted one -/
def ResSh (k : Int) (r r' : List Tok × (Int × Int) × Int) : Prop := r'.2.2 = r.2.2 ∧ ((r.1 = [] ∧ r'.1 = []) ∨ OutSh k r.1 r'.1)
theorem insF_sh {k : Int} (hk : 0 ≤ k) : ∀ (l : List Tok) (s s' : LSt), (∀ t ∈ l, 1 ≤ t.2.1) → Sh k s s' → ResSh k (insF s l) (insF s' (l.map (shT k))) := by
  intro l
  induction l with
  | nil =>
    intro s s' _ h
    show ResSh k (endL s) (endL s')
    unfold endL
    have hl := shP_zero hk h.pline
    have hi := shP_zero hk h.pitem
    rw [h.line, h.item]
    by_cases h1 : s.line ≠ (0, 0)
    · have g1 : shP k s.line ≠ (0, 0) := fun q => h1 (hl.1 q)
      rw [if_pos h1, if_pos g1]; exact ⟨rfl, .inl ⟨rfl, rfl⟩⟩
    have g1 : ¬ shP k s.line ≠ (0, 0) := fun q => q (hl.2 (Classical.byContradiction h1))
    rw [if_neg h1, if_neg g1]
    by_cases h2 : s.item ≠ (0, 0)
    · have g2 : shP k s.item ≠ (0, 0) := fun q => h2 (hi.1 q)
      rw [if_pos h2, if_pos g2]; exact ⟨rfl, .inl ⟨rfl, rfl⟩⟩
    have g2 : ¬ shP k s.item ≠ (0, 0) := fun q => q (hi.2 (Classical.byContradiction h2))
    rw [if_neg h2, if_neg g2]
    refine ⟨rfl, .inr ?_⟩
    rw [h.cols]
    have := h.out.snoc (List.replicate s.cols.length (mkT 7 (0, 0)))
    rw [List.map_replicate] at this
    have e : shT k (mkT 7 (0, 0)) = mkT 7 (0, 0) := by unfold shT mkT; simp only; rw [sh0]
    rw [e] at this
    exact this
  | cons t r ih =>
    intro s s' hl h
    have ht := hl t (by simp)
    obtain ⟨h1, h2⟩ := addL_sh hk ht h
    rw [List.map_cons, insF_cons, insF_cons, h1]
    by_cases h3 : (addL s t).1 ≠ 0
    · rw [if_pos h3, if_pos h3]; exact ⟨rfl, .inl ⟨rfl, rfl⟩⟩
    · rw [if_neg h3, if_neg h3]
      exact ih _ _ (fun u hu => hl u (List.mem_cons_of_mem _ hu)) (h2 (Classical.byContradiction h3))
theorem ins_shifts {k : Int} (hk : 0 ≤ k) (l : List Tok) (hl : ∀ t ∈ l, 1 ≤ t.2.1) : ResSh k (insL l) (insL (l.map (shT k))) :=
  insF_sh hk l _ _ hl ⟨⟨[], rfl, rfl⟩, rfl, (sh0 k).symm, (sh0 k).symm, (sh0 k).symm, pok0, pok0, pok0⟩

end Go.Proofs.YtebfnlahiodefaaDoor.M
