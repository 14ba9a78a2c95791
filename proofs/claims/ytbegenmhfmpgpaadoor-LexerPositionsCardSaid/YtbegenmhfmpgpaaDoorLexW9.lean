/- What the lexer's Scan returns at every string. -/
import Derived.Test.YtbegenmhfmpgpaaDoorLexW8
import Derived.Test.YtbegenmhfmpgpaaDoorLexW6
import Derived.Test.YtbegenmhfmpgpaaDoorLexS
import Derived.ChangeAlike
import Derived.RegionTactic
namespace Go.Proofs.YtbegenmhfmpgpaaDoor
open Go.RowKit M

def tokCells (t : Tok) : List Value := [.int .i64 t.1.kind, .int .i64 t.1.num, .string (S t.1.str), .int .i64 t.2.1, .int .i64 t.2.2]
def toksCells (ts : List Tok) : List Value := ts.flatMap tokCells
/-- what Scan leaves: a slice that is the call's own and reads as the tokens -/
def ScanPost (r : List Tok × (Int × Int) × Int) (w : World) (e : Ending) (w' : World) : Prop :=
  ∃ v, e = .returned (.tuple #[v, .agg #[.int .i64 r.2.1.1, .int .i64 r.2.1.2], .int .i64 r.2.2]) ∧ w'.ownsRow w.heap.size 25 5 v r.1.length (toksCells r.1) ∧ Below w.heap.size w w'

set_option maxHeartbeats 1000000 in
theorem scan_long (s : ByteArray) (hm : 65536 < s.size) (hx : s.size ≤ maxLen) (w : World) :
    Calls Tryd.prog 15 #[.string s] w (ScanPost ([], (0, 0), 10) w) := by
  unfold maxLen at hx
  go_enter Tryd.func15, Tryd.ntmps15
  go_wp2
  refine bodyPost_ret (v := .tuple #[.slice none 0 0, .agg #[.int .i64 0, .int .i64 0], .int .i64 10]) ?_ rfl ⟨_, rfl, World.ownsRow_nil _ _ _ _, ?_⟩
  · simp [results, Tryd.results15, go_sem]
  · exact (Below.refl _ _).alloc (Nat.le_refl _) _

theorem posA_rest (p : Int × Int) (s : ByteArray) (a n : Nat) : posA (posA p (s.data.toList.take a)) ((rest s a).take n) = posA p (s.data.toList.take (a + n)) := by
  unfold rest; rw [← posA_append, List.take_add]

theorem below_drew {B : Nat} {a w : World} (h : Below B a w) : Below B a w.drew := ⟨h.os, h.tape, h.output, h.size, h.block⟩
theorem below_grown {B g : Nat} {a w w' : World} (h : Below B a w) (k : w.grownBy w' (some g)) (hg : B ≤ g) (hB : B ≤ a.heap.size) : Below B a w' :=
  ⟨k.os.trans h.os, k.tape.trans h.tape, k.output.trans h.output, Nat.le_trans h.size k.size, fun i hi => (k.block i (by have := h.size; omega) (by intro e; injection e; omega)).trans (h.block i hi)⟩
theorem owns_base {w : World} {b b' : Nat} {e : TypeId} {z : Nat} {v : Value} {n : Nat} {xs : List Value} (h : w.ownsRow b e z v n xs) (hb : b' ≤ b) : w.ownsRow b' e z v n xs := by
  obtain ⟨h1, h2⟩ := h
  refine ⟨h1, ?_⟩
  rcases h2 with h2 | ⟨g, cap, cur, a, c, d⟩
  · exact .inl h2
  · exact .inr ⟨g, cap, cur, a, by omega, d⟩
theorem owns_grown {w w' : World} {b g : Nat} {e : TypeId} {z : Nat} {v : Value} {n : Nat} {xs : List Value} (h : w.ownsRow b e z v n xs) (hg : w.grownBy w' (some g)) (hb : g < b) : w'.ownsRow b e z v n xs := by
  refine h.kept hg ?_
  cases ho : v.ownBlock with
  | none => exact .inl rfl
  | some k => refine .inr ?_; have := (h.lt k ho).1; intro e; injection e; omega

theorem owns_form {w : World} {b : Nat} {e : TypeId} {z : Nat} {v : Value} {n : Nat} {xs : List Value} (h : w.ownsRow b e z v n xs) : ∃ A c, v = .slice A n c := by
  rcases h.2 with ⟨rfl, rfl⟩ | ⟨g, cap, cur, rfl, _⟩
  · exact ⟨_, _, rfl⟩
  · exact ⟨_, _, rfl⟩

theorem token_info : (Tryd.prog.info? 25).map (fun i => (i.zero, i.size, i.bytes)) = some (some (.agg #[.int .i64 0, .int .i64 0, .string ⟨#[]⟩, .int .i64 0, .int .i64 0]), 5, 48) := by kernel_rfl
theorem owns_below {w w' : World} {b : Nat} {e : TypeId} {z : Nat} {v : Value} {n : Nat} {xs : List Value} (h : w.ownsRow b e z v n xs) (hb : Below w.heap.size w w') : w'.ownsRow b e z v n xs := by
  refine h.kept (row := none) ⟨hb.os, hb.tape, hb.output, hb.size, fun k hk _ => hb.block k hk⟩ ?_
  cases ho : v.ownBlock with
  | none => exact .inl rfl
  | some k => exact .inr (by simp)

theorem toks_snoc (ts : List Tok) (t : Tok) : toksCells ts ++ tokCells t = toksCells (ts ++ [t]) := by simp [toksCells]
theorem tok_cells (w : World) (t : Tok) (o : Obj) : ∀ (j : Nat) (u : Value), (tokCells t)[j]? = some u → ((w.alloc o).alloc (.cells #[.int .i64 t.1.kind, .int .i64 t.1.num, .string (S t.1.str), .int .i64 t.2.1, .int .i64 t.2.2] 25)).cell? ((⟨w.heap.size + 1, 0, none⟩ : Addr).add j) = some u := by
  intro j u hu
  have ha : (⟨w.heap.size + 1, 0, none⟩ : Addr).add j = ⟨w.heap.size + 1, j, none⟩ := by unfold Addr.add; split <;> simp_all
  have hn := heap_alloc_new (w.alloc o) (.cells #[.int .i64 t.1.kind, .int .i64 t.1.num, .string (S t.1.str), .int .i64 t.2.1, .int .i64 t.2.2] 25)
  have hs : (w.alloc o).heap.size = w.heap.size + 1 := by simp
  rw [hs] at hn
  rw [ha, cell_of_row _ _ j _ _ _ hn]
  simpa [tokCells] using hu

theorem lt_of_some {w : World} {b : Nat} {o : Obj} (h : w.heap[b]? = some o) : b < w.heap.size := by
  rcases Nat.lt_or_ge b w.heap.size with hlt | hge
  · exact hlt
  · rw [Array.getElem?_eq_none hge] at h; cases h

/-- what holds of Scan's tokens, cursor and memory at each round's head: w the world when the call began -/
def SLoop (w : World) (s : ByteArray) (R : List Tok × (Int × Int) × Int) (v : Value) (wr : World) : Prop :=
  ∃ (k f : Nat) (ts : List Tok), k ≤ s.size ∧ s.size + 1 ≤ f + k ∧ ts.length ≤ 16384 ∧ R = scF f (rest s k) (posA (1, 1) (s.data.toList.take k)) ts ∧
    Cur wr (w.heap.size + 1) (s.extract k s.size) (posA (1, 1) (s.data.toList.take k)) ∧ wr.ownsRow (w.heap.size + 2) 25 5 v ts.length (toksCells ts) ∧
    wr.heap[w.heap.size]? = some (.cells #[.int .i64 0, .int .i64 0] 23 (0, 0)) ∧ Below w.heap.size w wr

theorem skip_at (w : World) (g : Nat) (s : ByteArray) (k : Nat) (hk : k ≤ s.size) (hm : s.size ≤ 65536) (hc : Cur w g (s.extract k s.size) (posA (1, 1) (s.data.toList.take k))) :
    Calls Tryd.prog 35 #[.pointer (some ⟨g, 0, none⟩)] w fun e w' => e = .returned (.bool (sk (rest s k)).2) ∧
      Cur w' g (s.extract (k + (sk (rest s k)).1) s.size) (posA (1, 1) (s.data.toList.take (k + (sk (rest s k)).1))) ∧ w.grownBy w' (some g) := by
  have hb := posA_bound (s.data.toList.take k) (1, 1) (by decide) (by decide)
  have hl : (s.data.toList.take k).length ≤ k := List.length_take_le _ _
  simp only at hb
  have hz : (s.extract k s.size).size = (rest s k).length := by rw [rest_length, ByteArray.size_extract]; omega
  refine (skip_any w g (s.extract k s.size) _ hc (by rw [ByteArray.size_extract]; omega) (by omega) (by omega) (by omega) (by omega)).mono ?_
  rintro e w' ⟨he, h1, h2⟩
  rw [hz, extract_rest] at he
  rw [hz, extract_rest, posA_rest] at h1
  refine ⟨he, ?_, h2⟩
  have h3 := extract_extract s k (sk (rest s k)).1
  rw [hz] at h3
  rw [← h3]
  exact h1

theorem Cur.of_pair {w : World} {g : Nat} {s : ByteArray} {p : Int × Int} (h : Cur w g s p) : Cur w g s (p.1, p.2) := h

set_option maxHeartbeats 2000000 in
theorem scan_short (s : ByteArray) (hm : s.size ≤ 65536) (w : World) (hr : RangeVar w) :
    Calls Tryd.prog 15 #[.string s] w (ScanPost (scan s.data.toList) w) := by
  have HR := Lib.hid hr
  have hlen : s.data.toList.length = s.size := by simp
  have hS : Hid (scan s.data.toList = scF (s.size + 1) (rest s 0) (1, 1) []) := by
    unfold Hid scan; rw [hlen, if_neg (by omega)]; rfl
  clear hr hlen
  generalize scan s.data.toList = R at *
  have h65 : decide (65536 < (s.size : Int)) = false := by simp; omega
  go_enter Tryd.func15, Tryd.ntmps15
  go_wp2_with fail
  go_loopw [5] (fun v wr => SLoop w s R v wr) (fun _ wr => remN wr (w.heap.size + 1))
  case atStart =>
    refine ⟨0, s.size + 1, [], by omega, by omega, by decide, hS.out, ?_, World.ownsRow_nil _ _ _ _, ?_, ?_⟩
    · rw [ByteArray.extract_zero_size]
      unfold Cur
      have := heap_alloc_new (w.alloc (.cells #[.int .i64 0, .int .i64 0] 23)) (.cells #[.string s, .int .i64 1, .int .i64 1] 64)
      simpa [posA] using this
    · rw [Below.heap_alloc _ _ _ (by simp)]
      exact heap_alloc_new w _
    · exact ((Below.refl _ _).alloc (Nat.le_refl _) _).alloc (by simp) _
  case round =>
    obtain ⟨k, f, ts, hk, hf, hts, hR, hC, hO, hP, hB⟩ := hrel
    obtain ⟨f, rfl⟩ : ∃ x, f = x + 1 := ⟨f - 1, by omega⟩
    have hst := scF_step f (rest s k) (posA (1, 1) (s.data.toList.take k)) ts
    have hsk := sk_le (rest s k)
    rw [posA_rest, rest_drop] at hst
    have HK := skip_at wr _ s k hk hm hC
    rw [rest_length] at hsk
    generalize sk (rest s k) = kk at hst hsk HK
    obtain ⟨m, ok⟩ := kk
    simp only at hst hsk HK
    have HKH := Lib.hid HK
    have HO := Lib.hid hO
    clear hO HK
    cases ok
    · rw [if_pos rfl] at hst
      have hz : Hid (R = ([], posA (1, 1) (s.data.toList.take (k + m)), 2)) := hR.trans hst
      clear hst hR
      go_wp2_with fail
      refine HKH.out.mono ?_
      rintro e w1 ⟨rfl, hC1, hG1⟩
      generalize posA (1, 1) (s.data.toList.take (k + m)) = q at *
      obtain ⟨a, b⟩ := q
      have hP1 : w1.heap[w.heap.size]? = some (.cells #[.int .i64 0, .int .i64 0] 23 (0, 0)) := (hG1.block _ (by have := hC.lt; omega) (by simp)).trans hP
      have d1 : w1.cell? ⟨w.heap.size + 1, 1, none⟩ = some (.int .i64 a) := hC1.c1
      have d2 : w1.cell? ⟨w.heap.size + 1, 2, none⟩ = some (.int .i64 b) := hC1.c2
      have p0 : w1.cell? ⟨w.heap.size, 0, none⟩ = some (.int .i64 0) := cell_of_row w1 _ 0 _ _ _ hP1
      have p1 : w1.cell? ⟨w.heap.size, 1, none⟩ = some (.int .i64 0) := cell_of_row w1 _ 1 _ _ _ hP1
      have q0 : ∀ i, w1.frozen? ⟨w.heap.size, i, none⟩ = false := fun i => by simp [World.frozen?, hP1]
      have HP1 := Lib.hid hP1
      have HG := Lib.hid hG1
      have HB := Lib.hid hB
      have HC := Lib.hid hC
      have HC1 := Lib.hid hC1
      clear hP hP1 hG1 hB hC hC1
      clear HKH
      go_wp2
      go_region
      go_wp2
      refine bodyPost_ret (v := .tuple #[.slice none 0 0, .agg #[.int .i64 a, .int .i64 b], .int .i64 2]) ?_ rfl ?_
      · simp [results, Tryd.results15, go_sem, p0, p1]
      · rw [hz.out]
        exact ⟨_, rfl, World.ownsRow_nil _ _ _ _, below_drew (((below_grown HB.out HG.out (by omega) (Nat.le_refl _)).setCell (by simp) _).setCell (by simp) _)⟩
    · rw [if_neg (by decide)] at hst
      go_wp2_with fail
      refine HKH.out.mono ?_
      rintro e w1 ⟨rfl, hC1, hG1⟩
      clear HKH
      have hP1 : w1.heap[w.heap.size]? = some (.cells #[.int .i64 0, .int .i64 0] 23 (0, 0)) := (hG1.block _ (by have := hC.lt; omega) (by simp)).trans hP
      have HB1 : Hid (Below w.heap.size w w1) := below_grown hB hG1 (by omega) (Nat.le_refl _)
      have HO1 : Hid (w1.ownsRow (w.heap.size + 2) 25 5 u5 ts.length (toksCells ts)) := owns_grown HO.out hG1 (by omega)
      have hrem : Hid (remN wr (w.heap.size + 1) = s.size - k) := by unfold Hid remN; rw [hC.c0]; simp [ByteArray.size_extract]
      have hlt1 : w.heap.size + 1 < w1.heap.size := hC1.lt
      have hkm : k + m ≤ s.size := by omega
      clear hP hB hC hG1 HO
      have hsz : (s.extract (k + m) s.size).size = s.size - (k + m) := by rw [ByteArray.size_extract]; omega
      have hrs : (s.extract (k + m) s.size).data.toList = rest s (k + m) := extract_rest s (k + m)
      by_cases hend : k + m = s.size
      · have he : rest s (k + m) = [] := rest_end s (k + m) (by omega)
        rw [if_pos he] at hst
        have hz : Hid (R = (ts, (0, 0), 0)) := hR.trans hst
        obtain he2 := size_zero (s.extract (k + m) s.size) (by omega)
        rw [he2] at hC1
        have d0 : w1.cell? ⟨w.heap.size + 1, 0, none⟩ = some (.string ⟨#[]⟩) := hC1.c0
        have p0 : w1.cell? ⟨w.heap.size, 0, none⟩ = some (.int .i64 0) := cell_of_row w1 _ 0 _ _ _ hP1
        have p1 : w1.cell? ⟨w.heap.size, 1, none⟩ = some (.int .i64 0) := cell_of_row w1 _ 1 _ _ _ hP1
        have q0 : ∀ i, w1.frozen? ⟨w.heap.size, i, none⟩ = false := fun i => by simp [World.frozen?, hP1]
        have HP1 := Lib.hid hP1
        clear hst hR he he2 hC1 hsz hrs hend hP1
        go_wp2
        refine bodyPost_ret (v := .tuple #[u5, .agg #[.int .i64 0, .int .i64 0], .int .i64 0]) ?_ rfl ?_
        · simp [results, Tryd.results15, go_sem, p0, p1]
        · rw [hz.out]
          exact ⟨_, rfl, owns_base (owns_grown HO1.out (only_set (only_set (only_refl w1 (some w.heap.size)) _ _) _ _) (by omega)) (by omega), (HB1.out.setCell (by simp) _).setCell (by simp) _⟩
      · have hne : rest s (k + m) ≠ [] := by intro h; have := congrArg List.length h; rw [rest_length] at this; simp at this; omega
        rw [if_neg hne, posA_rest, rest_drop] at hst
        have HI := fun W hr => item_any (s.extract (k + m) s.size) (by omega) (by omega) W hr
        rw [hrs] at HI
        have hIN := itemN_le (rest s (k + m))
        have hIP := itemN_pos (rest s (k + m))
        rw [rest_length] at hIN
        obtain ⟨e1, e2⟩ := notEmpty (s.extract (k + m) s.size) (by omega)
        generalize itemR (rest s (k + m)) = T at *
        generalize itemN (rest s (k + m)) = N at *
        obtain ⟨kd, nu, st, er⟩ := T
        unfold itemV3 at HI
        simp only at HI hst hIP
        have HPOS := Lib.hid (fun n => posA_next (1, 1) s (k + m) n)
        have HEXT := Lib.hid (fun n => extract_extract s (k + m) n)
        have hbd := posA_bound (s.data.toList.take (k + m)) (1, 1) (by decide) (by decide)
        have hbl : (s.data.toList.take (k + m)).length ≤ k + m := List.length_take_le _ _
        have HBD : Hid (0 ≤ (posA (1, 1) (s.data.toList.take (k + m))).1 ∧ (posA (1, 1) (s.data.toList.take (k + m))).1 ≤ 1000000 ∧ 0 ≤ (posA (1, 1) (s.data.toList.take (k + m))).2 ∧ (posA (1, 1) (s.data.toList.take (k + m))).2 ≤ 1000000) := by
          simp only at hbd
          exact ⟨by omega, by omega, by omega, by omega⟩
        clear hbd hbl
        generalize posA (1, 1) (s.data.toList.take (k + m)) = q at *
        obtain ⟨a, b⟩ := q
        obtain ⟨A, c, rfl⟩ := owns_form HO1.out
        have d0 : w1.cell? ⟨w.heap.size + 1, 0, none⟩ = some (.string (s.extract (k + m) s.size)) := hC1.c0
        have HIH := Lib.hid HI
        have HC1 := Lib.hid hC1
        have HP1 := Lib.hid hP1
        have HST := Lib.hid hst
        have hRR := Lib.hid hR
        have HRV : Hid (RangeVar w1) := HR.out.below HB1.out
        have HIN := Lib.hid hIN
        have HIP := Lib.hid hIP
        generalize s.extract (k + m) s.size = t at *
        clear HI hC1 hP1 hst hR hrs hne hIN hIP
        go_wp2_with fail
        refine (HIH.out _ HRV.out).mono ?_
        rintro e w2 ⟨rfl, hb2⟩
        clear d0
        have hlt2 : w1.heap.size ≤ w2.heap.size := hb2.size
        obtain ⟨hc2, hf2⟩ := bcell_alloc hb2
        have x0 : ∀ x : Obj, (w2.alloc x).cell? ⟨w.heap.size, 0, none⟩ = some (.int .i64 0) := fun x => by rw [hc2 x _ _ (by omega)]; exact cell_of_row w1 _ 0 _ _ _ HP1.out
        have x1 : ∀ x : Obj, (w2.alloc x).cell? ⟨w.heap.size, 1, none⟩ = some (.int .i64 0) := fun x => by rw [hc2 x _ _ (by omega)]; exact cell_of_row w1 _ 1 _ _ _ HP1.out
        have y0 : ∀ (x : Obj) i, (w2.alloc x).frozen? ⟨w.heap.size, i, none⟩ = false := fun x i => by rw [hf2 x _ _ (by omega)]; simp [World.frozen?, HP1.out]
        have x2 : ∀ x : Obj, (w2.alloc x).cell? ⟨w.heap.size + 1, 1, none⟩ = some (.int .i64 a) := fun x => by rw [hc2 x _ _ (by omega)]; exact HC1.out.c1
        have x3 : ∀ x : Obj, (w2.alloc x).cell? ⟨w.heap.size + 1, 2, none⟩ = some (.int .i64 b) := fun x => by rw [hc2 x _ _ (by omega)]; exact HC1.out.c2
        have HB2 := Lib.hid hb2
        have HC2 := Lib.hid hc2
        have HF2 := Lib.hid hf2
        clear hb2 hc2 hf2 e1 e2
        by_cases her : er = 0
        · by_cases hfull : ts.length = 16384
          · have hit : itErr ⟨kd, nu, st, er⟩ ts.length = 10 := by unfold itErr; rw [if_pos ⟨her, hfull⟩]
            have hz : Hid (R = ([], (a, b), 10)) := by
              have h1 := HST.out; rw [hit, if_pos (by decide)] at h1; exact hRR.out.trans h1
            have g1 : (er == 0) = true := beq_iff_eq.2 her
            have g2 : ((ts.length : Int) == 16384) = true := beq_iff_eq.2 (by omega)
            clear hit her hfull HST hRR
            go_wp2
            go_region
            go_wp2
            refine bodyPost_ret (v := .tuple #[.slice none 0 0, .agg #[.int .i64 a, .int .i64 b], .int .i64 10]) ?_ rfl ?_
            · simp [results, Tryd.results15, go_sem, x0, x1]
            · rw [hz.out]
              exact ⟨_, rfl, World.ownsRow_nil _ _ _ _, below_drew ((((HB1.out.trans (HB2.out.mono (by omega))).alloc (by omega) _).setCell (by simp) _).setCell (by simp) _)⟩
          · have hit : itErr ⟨kd, nu, st, er⟩ ts.length = 0 := by unfold itErr; rw [if_neg (fun h => hfull h.2)]; exact her
            have hz : Hid (R = scF f (rest s (k + m + N)) (posA (1, 1) (s.data.toList.take (k + m + N))) (ts ++ [(⟨kd, nu, st, er⟩, (a, b))])) := by
              have h1 := HST.out; rw [hit, if_neg (by decide)] at h1; exact hRR.out.trans h1
            have hNp : 0 < N := HIP.out her
            have hNl : k + m + N ≤ s.size := by have := HIN.out; omega
            have g1 : (er == 0) = true := beq_iff_eq.2 her
            have g2 : ((ts.length : Int) == 16384) = false := beq_eq_false_iff_ne.2 (by omega)
            have g3 : (er != 0) = false := by simp [her]
            have HER := Lib.hid her
            have htl : ts.length < 16384 := by omega
            clear hit her hfull HST hRR
            obtain ⟨i0, hi, hz0, hz1, hz2⟩ := info_parts token_info
            have HOW := Lib.hid (owns_below HO1.out HB2.out)
            go_wp2_with (at_builtin; refine wpList_append_own _ rfl _ _ 26 rfl (w.heap.size + 2) 25 i0 (.agg #[.int .i64 0, .int .i64 0, .string ⟨#[]⟩, .int .i64 0, .int .i64 0]) 5 48 Tryd.underlying26 hi hz0 hz1 hz2 rfl (by decide) _ _ _ rfl ((HOW.out.alloc _).alloc _) ⟨w2.heap.size + 1, 0, none⟩ 1 1 (tokCells (⟨kd, nu, st, er⟩, (a, b))) rfl rfl ?c2 ?c3 ?c4 ?c5 ?c6 ?_)
            case c2 => exact tok_cells w2 (⟨kd, nu, st, er⟩, (a, b)) _
            case c3 => intro u hu; simp [tokCells] at hu; rcases hu with rfl | rfl | rfl | rfl | rfl <;> rfl
            case c4 => unfold maxLen; omega
            case c5 => omega
            case c6 => simp; omega
            intro v3 w3 hown3 hgrow3 _
            rw [toks_snoc] at hown3
            have hob := HOW.out.lt
            have hC3 : Cur w3 (w.heap.size + 1) t (a, b) := by
              have h1 : Cur w2 (w.heap.size + 1) t (a, b) := (HB2.out.block _ (by omega)).trans HC1.out
              have h2 : Cur (w2.alloc (.cells #[.int .i64 kd, .int .i64 nu, .string (S st), .int .i64 a, .int .i64 b] 25)) (w.heap.size + 1) t (a, b) := (Below.heap_alloc _ _ _ h1.lt).trans h1
              have h3 : Cur ((w2.alloc (.cells #[.int .i64 kd, .int .i64 nu, .string (S st), .int .i64 a, .int .i64 b] 25)).alloc (.cells #[.int .i64 kd, .int .i64 nu, .string (S st), .int .i64 a, .int .i64 b] 25)) (w.heap.size + 1) t (a, b) := (Below.heap_alloc _ _ _ h2.lt).trans h2
              exact h3.grown hgrow3 (fun e => by have := (hob _ e.symm).1; omega)
            have hP3 : Hid (w3.heap[w.heap.size]? = some (.cells #[.int .i64 0, .int .i64 0] 23 (0, 0))) := by
              refine (hgrow3.block _ (by simp; omega) (fun e => by have := (hob _ e.symm).1; omega)).trans ?_
              rw [Below.heap_alloc _ _ _ (by simp; omega), Below.heap_alloc _ _ _ (by omega)]
              exact (HB2.out.block _ (by omega)).trans HP1.out
            have hB3 : Hid (Below w.heap.size w w3) := by
              have h1 := ((HB1.out.trans (HB2.out.mono (by omega))).alloc (by omega) (.cells #[.int .i64 kd, .int .i64 nu, .string (S st), .int .i64 a, .int .i64 b] 25)).alloc (by simp; omega) (.cells #[.int .i64 kd, .int .i64 nu, .string (S st), .int .i64 a, .int .i64 b] 25)
              exact ⟨hgrow3.os.trans h1.os, hgrow3.tape.trans h1.tape, hgrow3.output.trans h1.output, Nat.le_trans h1.size hgrow3.size, fun i hi => (hgrow3.block i (by simp; omega) (fun e => by have := (hob _ e.symm).1; omega)).trans (h1.block i hi)⟩
            have HADV := Lib.hid (advance_any w3 (w.heap.size + 1) t (a, b) hC3 (by omega) N (by omega) HBD.out.1 HBD.out.2.1 HBD.out.2.2.1 HBD.out.2.2.2)
            have HO3 := Lib.hid hown3
            have HTS := Lib.hid hsz
            clear hown3 hgrow3 hob hC3 hsz x0 x1 x2 x3 y0
            go_wp2_with fail
            refine HADV.out.mono ?_
            rintro e w4 ⟨rfl, hC4, hG4⟩
            rw [HEXT.out, HPOS.out] at hC4
            have HC4 := Lib.hid hC4
            have HB4 : Hid (Below w.heap.size w w4) := below_grown hB3.out hG4 (by omega) (Nat.le_refl _)
            have HO4 : Hid (w4.ownsRow (w.heap.size + 2) 25 5 v3 (ts ++ [((⟨kd, nu, st, er⟩ : TR), (a, b))]).length (toksCells (ts ++ [(⟨kd, nu, st, er⟩, (a, b))]))) := by
              unfold Hid
              rw [List.length_append]
              exact owns_grown HO3.out hG4 (by omega)
            have HP4 : Hid (w4.heap[w.heap.size]? = some (.cells #[.int .i64 0, .int .i64 0] 23 (0, 0))) :=
              (hG4.block _ (lt_of_some hP3.out) (by simp)).trans hP3.out
            clear hC4 hG4 HADV hP3 hB3 HO3
            go_wp2
            go_roundw
            case rel => exact ⟨k + m + N, f, ts ++ [(⟨kd, nu, st, er⟩, (a, b))], hNl, by omega, by simp; omega, hz.out, HC4.out, HO4.out, HP4.out, HB4.out⟩
            case measure =>
              rw [hrem.out]
              unfold remN
              rw [HC4.out.c0]
              simp only [ByteArray.size_extract]
              omega
        · have hit : itErr ⟨kd, nu, st, er⟩ ts.length = er := by unfold itErr; rw [if_neg (fun h => her h.1)]
          have hz : Hid (R = ([], (a, b), er)) := by
            have h1 := HST.out; rw [hit, if_pos her] at h1; exact hRR.out.trans h1
          have g1 : (er == 0) = false := beq_eq_false_iff_ne.2 her
          have g3 : (er != 0) = true := by simp [her]
          clear hit her HST hRR
          go_wp2
          go_region
          go_wp2
          refine bodyPost_ret (v := .tuple #[.slice none 0 0, .agg #[.int .i64 a, .int .i64 b], .int .i64 er]) ?_ rfl ?_
          · simp [results, Tryd.results15, go_sem, x0, x1]
          · rw [hz.out]
            exact ⟨_, rfl, World.ownsRow_nil _ _ _ _, below_drew ((((HB1.out.trans (HB2.out.mono (by omega))).alloc (by omega) _).setCell (by simp) _).setCell (by simp) _)⟩

theorem scan_any (s : ByteArray) (hx : s.size ≤ maxLen) (w : World) (hr : RangeVar w) :
    Calls Tryd.prog 15 #[.string s] w (ScanPost (scan s.data.toList) w) := by
  by_cases hm : s.size ≤ 65536
  · exact scan_short s hm w hr
  · have hlen : s.data.toList.length = s.size := by simp
    have : scan s.data.toList = ([], (0, 0), 10) := by unfold scan; rw [if_pos (by omega)]
    rw [this]
    exact scan_long s (by omega) hx w

end Go.Proofs.YtbegenmhfmpgpaaDoor
