/- A range over a function whose iterator has blocks of its own: the m blocks that it makes first are its own to write, and empty lists of deferred calls stay as they are. No conditions. -/
import Derived.RangeFuncBox
import Derived.RangeFuncLeaves
import Derived.RangeFuncNested
namespace Go.Proofs.YtkdlmgahkckjbaaGreat
open Go.RowKit

/-- kept by what an iterator may do with its own: blocks without cells from B on, and the blocks from C to C + m -/
def OwnR {β : Type} (B C m : Nat) (J : β → World → Prop) : Prop :=
  ∀ s X Y row, J s X → X.grownBy Y row → (∀ r, row = some r → (B ≤ r ∧ ∃ o : Obj, X.heap[r]? = some o ∧ o.isCells = false) ∨ (C ≤ r ∧ r < C + m)) → J s Y
theorem OwnR.alloc {β : Type} {B C m : Nat} {J : β → World → Prop} (h : OwnR B C m J) {s : β} {W : World} (o : Obj) (hs : J s W) : J s (W.alloc o) :=
  h s W _ none hs (World.grownBy_alloc W o none) fun _ e => by cases e
theorem OwnR.putObj {β : Type} {B C m : Nat} {J : β → World → Prop} (h : OwnR B C m J) {s : β} {W : World} {l : Nat} {o : Obj} (o' : Obj) (hs : J s W) (hB : B ≤ l) (hl : W.heap[l]? = some o) (ho : o.isCells = false) : J s (W.putObj l o') :=
  h s W _ (some l) hs (grownBy_putObj' W l o') fun _ e => by cases e; exact .inl ⟨hB, o, hl, ho⟩
theorem OwnR.and {β : Type} {B C m : Nat} {I J : β → World → Prop} (h : OwnR B C m I) (k : OwnR B C m J) : OwnR B C m fun s W => I s W ∧ J s W := fun s X Y row hs hg hr => ⟨h s X Y row hs.1 hg hr, k s X Y row hs.2 hg hr⟩
theorem ownR_pure {β : Type} (B C m : Nat) (p : β → Prop) : OwnR B C m fun s (_ : World) => p s := fun _ _ _ _ hs _ _ => hs
theorem OwnR.from {β : Type} {B C m : Nat} {J : β → World → Prop} (h : OwnR B C m J) {B2 : Nat} (hB : B ≤ B2) : OwnFrom B2 J := fun s X Y row hs hg hr => h s X Y row hs hg fun r e => .inl ⟨Nat.le_trans hB (hr r e).1, (hr r e).2⟩
/-- an empty list of deferred calls -/
abbrev noCalls : Obj := .deferred (some [])
/-- what a round leaves as it was -/
structure KeepR (n₀ C m : Nat) (W W' : World) : Prop where
  b : Below n₀ W W'
  r : ∀ k, C ≤ k → k < C + m → W'.heap[k]? = W.heap[k]?
  d : ∀ k, C ≤ k → W.heap[k]? = some noCalls → W'.heap[k]? = some noCalls
def SeqR {α : Type} (F : Fence) (n : Nat) (P : Program) (g : Nat) (lb : Array Value) (encs : α → Array Value) (n₀ m : Nat) (S Sp : List α → Prop) (N : Nat) (w : World) : Prop :=
  ∀ (l : Nat) (J Jx : List α → World → Prop) (W : World), Below w.heap.size w W → OwnR W.heap.size W.heap.size m J → OwnR W.heap.size W.heap.size m Jx →
    (∀ pre x X, J pre X → W.heap.size + m ≤ X.heap.size → pre.length < N → YieldAt F (n - 1) P l (encs x) X fun e Y =>
      (e = .returned (.bool true) ∧ J (pre ++ [x]) Y ∧ KeepR n₀ W.heap.size m X Y) ∨ (e = .returned (.bool false) ∧ Jx (pre ++ [x]) Y ∧ ∀ k, W.heap.size ≤ k → X.heap[k]? = some noCalls → Y.heap[k]? = some noCalls)) →
    J [] W →
    CallsIn F n P g (#[.func (.yield l) #[] #[]] ++ lb) W fun e Y => (∃ v, e = .returned v) ∧ ((∃ xs, S xs ∧ J xs Y) ∨ (∃ pre, Sp pre ∧ Jx pre Y))
theorem below_put {n₀ : Nat} {W : World} {l : Nat} {o : Obj} (o' : Obj) (h : n₀ ≤ l) (hl : W.heap[l]? = some o) : Below n₀ W (W.putObj l o') :=
  (Below.refl n₀ W).grown (grownBy_putObj' W l o') (by have := (Array.getElem?_eq_some_iff.1 hl).1; omega) fun _ e => by cases e; exact h
/-- what the body of a round keeps, where it goes on -/
def KpR (n₀ C m : Nat) (W W' : World) : Prop := Below n₀ W W' ∧ ∀ k, C ≤ k → k < C + m → W'.heap[k]? = W.heap[k]?

variable {F : Fence} {n : Nat} {P : Program}
theorem wpIn_rangeR {α : Type} {g : Operand} {ps : Array Tmp} {assign body : Code} {Q : Exit → Act → World → Prop} {a : Act} {w : World}
    (hro : F.round = none) (h1 : 1 ≤ n) {gf : Nat} {lb : Array Value} (hg : a.eval g = .func (.func gf) #[] lb) (hFg : F.fn gf) (eg : ∀ args w, (callFunc gf args).run P w = .ok (.enter gf args) w)
    {encs : α → Array Value} {n₀ m : Nat} {S Sp : List α → Prop} {N : Nat} {w0 : World} (hseq : SeqR F (n - 1) P gf lb encs n₀ m S Sp N w0) (hn₀ : n₀ ≤ w.heap.size) (hb0 : Below w0.heap.size w0 w) (hps : ∀ x, (encs x).size = ps.size)
    (I : List α → World → Prop) (Ix : Code → List α → World → Prop) (hI : OwnR w.heap.size (w.heap.size + 2) m I) (hIx : ∀ c, OwnR w.heap.size (w.heap.size + 2) m (Ix c)) (h0 : I [] w) (a₁ : α → Act)
    (hassign : ∀ (l : Nat) (x : α) (W : World) (K : Act → World → Prop), K (a₁ x) W →
      assign.wpIn (F.inRound l) (n - 1 - 1) P (Exit.then K (fun _ _ _ => False)) { tmps := (ps.zip (encs x)).foldl (fun t (p, v) => t.setIfInBounds p v) a.tmps, defers := [] } W)
    (hbody : ∀ (l : Nat) (pre : List α) (x : α) (W : World), I pre W → w.heap.size + 2 + m ≤ W.heap.size → pre.length < N → body.wpIn (F.inRound l) (n - 1 - 1) P (ownPostG w.heap.size (KpR n₀ (w.heap.size + 2) m) I Ix (pre ++ [x]) W) (a₁ x) W)
    (hdone : ∀ (D : Nat) (xs : List α) (W : World), w.heap.size ≤ D → S xs → I xs W → W.heap[D]? = some noCalls → Q .normal { a with defers := { target := .collected D, args := #[] } :: a.defers } W)
    (hstop : ∀ (D : Nat) (c : Code) (pre : List α) (W : World), w.heap.size ≤ D → Sp pre → Ix c pre W → W.heap[D]? = some noCalls → c.wpIn F n P Q { a with defers := { target := .collected D, args := #[] } :: a.defers } W) :
    (Code.rangeFunc g ps assign body).wpIn F n P Q a w := by
  refine wpIn_rangeFunc fun fn hfn => ?_
  rw [hro]
  obtain ⟨mk, hmk⟩ : ∃ mk : LoopState → Option Code → Loop, mk = fun st pe => { state := st, pending := pe, fn, tmps := a.tmps, params := ps, assign, body, defers := w.heap.size } := ⟨_, rfl⟩
  obtain ⟨V, hV⟩ : ∃ V, (w.alloc noCalls).alloc (.loop (mk .ready none)) = V := ⟨_, rfl⟩
  obtain ⟨L, hL⟩ : ∃ L, L = w.heap.size + 1 := ⟨_, rfl⟩
  have hVs : V.heap.size = w.heap.size + 2 := by rw [← hV]; simp
  have eL : V.heap[L]? = some (.loop (mk .ready none)) := by
    rw [← hV, hL]
    have := World.alloc_heap_new (w.alloc noCalls) (.loop (mk .ready none))
    rwa [World.size_alloc] at this
  have eD : V.heap[w.heap.size]? = some noCalls := by rw [← hV]; exact (Below.heap_alloc _ _ _ (by simp)).trans (World.alloc_heap_new w _)
  have hI1 : I [] V := by rw [← hV]; exact hI.alloc _ (hI.alloc _ h0)
  have hb1 : Below w0.heap.size w0 V := by rw [← hV]; exact hb0.trans ((((Below.refl _ w).alloc (Nat.le_refl _) _).alloc (by simp) _).mono hb0.size)
  refine ⟨L, [{ target := .collected w.heap.size, args := #[] }], V, { target := .fn (.func gf) lb, args := #[.func (.yield L) #[] #[]] }, V, gf, #[.func (.yield L) #[] #[]] ++ lb, V, ?_, ?_, ?_, ?_, fun _ => h1, ?_⟩
  · rw [← hV, hmk, hL]; exact run_enterLoop_outer _ _ _ _ _
  · simp only [resolve, hg]
    simp [go_sem]
  · intro f' hf'; simp [Target.leads] at hf'; subst hf'; exact hFg
  · simp [invoke, go_sem, eg]
  · have own : ∀ {K : List α → World → Prop} (lo : Loop), OwnR w.heap.size (w.heap.size + 2) m K → OwnR V.heap.size V.heap.size m (fun pre W => K pre W ∧ W.heap[L]? = some (.loop lo) ∧ W.heap[w.heap.size]? = some noCalls) := fun lo hK s X Y row hs hg' hr => by
      have hne : ∀ k, k < V.heap.size → some k ≠ row := fun k hk e => by rcases hr k e.symm with ⟨q, _⟩ | ⟨q, _⟩ <;> omega
      refine ⟨hK s X Y row hs.1 hg' fun r e => ?_, ?_, ?_⟩
      · rcases hr r e with ⟨q, o⟩ | ⟨q, q2⟩
        · exact .inl ⟨by omega, o⟩
        · exact .inr ⟨by omega, by omega⟩
      · exact (hg'.block L (Array.getElem?_eq_some_iff.1 hs.2.1).1 (hne L (by omega))).trans hs.2.1
      · exact (hg'.block w.heap.size (Array.getElem?_eq_some_iff.1 hs.2.2).1 (hne _ (by omega))).trans hs.2.2
    refine (hseq L (fun pre W => I pre W ∧ W.heap[L]? = some (.loop (mk .ready none)) ∧ W.heap[w.heap.size]? = some noCalls)
      (fun pre W => ∃ c, Ix c pre W ∧ W.heap[L]? = some (.loop (mk .done (some c))) ∧ W.heap[w.heap.size]? = some noCalls)
      V hb1 (own _ hI) (fun s X Y row ⟨c, hs⟩ hg' hr => ⟨c, own _ (hIx c) s X Y row hs hg' hr⟩) ?_ ⟨hI1, eL, eD⟩).mono ?_
    · rintro pre x W ⟨hi, hl, hk⟩ hsz hlen
      rw [hVs] at hsz
      have hlt : L < W.heap.size := (Array.getElem?_eq_some_iff.1 hl).1
      have hy := run_yield (P := P) (args := encs x) hl (by rw [hmk]; exact hps x)
      rw [hmk] at hy
      refine ⟨fn, _, assign, body, hy, roundIn_of_wpIn hfn (hassign _ x W _ ⟨_, run_beginRound hl (by rw [hmk]), ?_⟩)⟩
      obtain ⟨lb1, hlb1⟩ : ∃ lb1 : Loop, lb1 = { mk .ready none with state := .busy } := ⟨_, rfl⟩
      rw [← hlb1]
      have l2 : (W.putObj L (.loop lb1)).heap[L]? = some (.loop lb1) := World.putObj_heap_same hlt
      have o2 : ∀ k, k ≠ L → (W.putObj L (.loop lb1)).heap[k]? = W.heap[k]? := fun k hk => World.putObj_heap_other hk
      have b2 : Below n₀ W (W.putObj L (.loop lb1)) := below_put _ (by omega) hl
      have s2 : (W.putObj L (.loop lb1)).heap.size = W.heap.size := by simp [World.putObj]
      refine wpIn_mono (hbody _ pre x _ (hI.putObj _ hi (by omega) hl rfl) (by omega) hlen) ?_
      have fin : ∀ (jump : Option Code) (Z : World), KeepsFrom w.heap.size (W.putObj L (.loop lb1)) Z →
          (Instr.endRound L jump).run P Z = .ok (.bool jump.isNone) (Z.putObj L (.loop (mk (if jump.isNone then .ready else .done) jump))) ∧ Z.heap[L]? = some (.loop lb1) ∧
          (Z.putObj L (.loop (mk (if jump.isNone then .ready else .done) jump))).heap[L]? = some (.loop (mk (if jump.isNone then .ready else .done) jump)) ∧
          (Z.putObj L (.loop (mk (if jump.isNone then .ready else .done) jump))).heap[w.heap.size]? = some noCalls ∧
          (∀ k, V.heap.size ≤ k → W.heap[k]? = some noCalls → (Z.putObj L (.loop (mk (if jump.isNone then .ready else .done) jump))).heap[k]? = some noCalls) := fun jump Z hz => by
        have l3 := hz.same _ _ (by omega) l2 rfl
        have e3 := run_endRound (P := P) jump l3
        refine ⟨?_, l3, World.putObj_heap_same (Array.getElem?_eq_some_iff.1 l3).1, (World.putObj_heap_other (by omega)).trans (hz.same _ _ (Nat.le_refl _) ((o2 _ (by omega)).trans hk) rfl), fun k hk2 hw => (World.putObj_heap_other (by omega)).trans (hz.same _ _ (by omega) ((o2 _ (by omega)).trans hw) rfl)⟩
        rw [hlb1, hmk] at e3
        rw [hmk]
        exact e3
      rintro e a3 Z hp
      cases e with
      | normal =>
        obtain ⟨hz, ⟨kb, kr⟩, hi3⟩ := hp
        obtain ⟨hr, l3, l4, d4, dd⟩ := fin none Z hz
        refine ⟨_, _, hr, .inl ⟨rfl, ⟨hI.putObj _ hi3 (by omega) l3 rfl, l4, d4⟩, ⟨(b2.trans kb).trans (below_put _ (by omega) l3), fun k q1 q2 => ?_, dd⟩⟩⟩
        exact (World.putObj_heap_other (by omega)).trans ((kr k (by omega) (by omega)).trans (o2 k (by omega)))
      | ret =>
        obtain ⟨hz, hi3⟩ := hp
        obtain ⟨hr, l3, l4, d4, dd⟩ := fin (some .ret) Z hz
        exact ⟨_, _, hr, .inr ⟨rfl, ⟨.ret, (hIx _).putObj _ hi3 (by omega) l3 rfl, l4, d4⟩, dd⟩⟩
      | exit id =>
        obtain ⟨hz, hi3⟩ := hp
        obtain ⟨hr, l3, l4, d4, dd⟩ := fin (some (.exit id)) Z hz
        exact ⟨_, _, hr, .inr ⟨rfl, ⟨.exit id, (hIx _).putObj _ hi3 (by omega) l3 rfl, l4, d4⟩, dd⟩⟩
      | goto t =>
        obtain ⟨hz, hi3⟩ := hp
        obtain ⟨hr, l3, l4, d4, dd⟩ := fin (some (.goto t)) Z hz
        exact ⟨_, _, hr, .inr ⟨rfl, ⟨.goto t, (hIx _).putObj _ hi3 (by omega) l3 rfl, l4, d4⟩, dd⟩⟩
      | panic ch => exact hp.elim
      | outgrown => exact hp.elim
    · rintro e Z ⟨⟨v, rfl⟩, (⟨xs, hS, hi, hl, hk⟩ | ⟨pre, hSp, c, hi, hl, hk⟩)⟩
      · have e3 := run_endLoop (P := P) hl (by rw [hmk]; simp)
        rw [hmk] at e3
        exact ⟨none, _, e3, hdone _ xs _ (Nat.le_refl _) hS (hI.putObj _ hi (by omega) hl rfl) ((World.putObj_heap_other (by omega)).trans hk)⟩
      · have e3 := run_endLoop (P := P) hl (by rw [hmk]; simp)
        rw [hmk] at e3
        exact ⟨some c, _, e3, hstop _ c pre _ (Nat.le_refl _) hSp ((hIx c).putObj _ hi (by omega) hl rfl) ((World.putObj_heap_other (by omega)).trans hk)⟩
/-- a frame that leaves with several empty lists of deferred calls -/
theorem leaves_many {fn : Func} {tmps : Array Value} {R : Ending → World → Prop} {v : Value} {B : Nat} {K : World → Prop} (hK : ∀ W D, K W → B ≤ D → W.heap[D]? = some noCalls → K (W.putObj D (.deferred none))) (hv : ∀ W, K W → (results fn tmps).run P W = .ok v W ∧ R (.returned v) W) :
    ∀ (Ds : List Nat) (W : World), Ds.Nodup → (∀ D ∈ Ds, B ≤ D ∧ W.heap[D]? = some noCalls) → K W → LeavesInM F n P fn tmps R (Ds.map fun D => { target := .collected D, args := #[] }) .returning W
  | [], W, _, _, h => ⟨v, hv W h⟩
  | D :: Ds, W, hd, hD, h => by
    obtain ⟨h1, h2⟩ := List.nodup_cons.1 hd
    obtain ⟨h3, h4⟩ := hD D (by simp)
    refine ⟨by simp, .inl ⟨_, _, rfl, run_takeDeferred h4, ?_⟩⟩
    refine leaves_many hK hv Ds _ h2 (fun E hE => ?_) (hK W D h h3 h4)
    obtain ⟨h5, h6⟩ := hD E (List.mem_cons_of_mem _ hE)
    refine ⟨h5, (World.putObj_heap_other fun q => ?_).trans h6⟩
    exact h1 (q ▸ hE)

end Go.Proofs.YtkdlmgahkckjbaaGreat
