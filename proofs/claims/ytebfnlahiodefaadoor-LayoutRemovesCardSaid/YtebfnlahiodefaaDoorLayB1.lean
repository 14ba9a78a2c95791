/- Removing what is inserted: the predicates, equality of lists of tokens, the reference's Balanced and Remove, the library's Clone, IndexFunc and DeleteFunc at tokens, and the program's Remove: it returns the tokens that are not inserted. Condition: at most 2932031007402 tokens (2^47 bytes). -/
import Derived.Test.YtebfnlahiodefaaDoorLayL2
import Derived.Test.YtebfnlahiodefaaDoorLayR
import Derived.Lib.SliceRun
namespace Go.Proofs.YtebfnlahiodefaaDoor
open Go.RowKit M

def insB (t : TR) : Bool := decide (5 ≤ t.kind) && decide (t.kind ≤ 7)

set_option maxRecDepth 100000 in
set_option maxHeartbeats 3200000 in
theorem inserted_any (t : TR) (a b : Int) (w : World) :
    Calls Tryd.prog 66 #[tkV t a b] w fun e w' => e = .returned (.bool (insB t)) ∧ Below w.heap.size w w' := by
  obtain ⟨k, num, st, er⟩ := t
  show Calls _ _ #[.agg #[.int .i64 k, .int .i64 num, .string (S st), .int .i64 a, .int .i64 b]] _ _
  have hV : Hid (insB ⟨k, num, st, er⟩ = (decide (5 ≤ k) && decide (k ≤ 7))) := rfl
  generalize insB ⟨k, num, st, er⟩ = V at *
  have hk : k = 5 ∨ (k ≠ 5 ∧ k = 6) ∨ (k ≠ 5 ∧ k ≠ 6 ∧ k = 7) ∨ (k ≠ 5 ∧ k ≠ 6 ∧ k ≠ 7) := by omega
  rcases hk with h | ⟨h1, h⟩ | ⟨h1, h2, h⟩ | ⟨h1, h2, h3⟩
  · subst h
    have hV2 := hV.out
    subst hV2
    clear hV
    go_enter Tryd.func66, Tryd.ntmps66
    go_wp2
    go_ret
    exact ⟨rfl, (Below.refl _ _).alloc (Nat.le_refl _) _⟩
  · subst h
    have hV2 := hV.out
    subst hV2
    clear hV
    go_enter Tryd.func66, Tryd.ntmps66
    go_wp2
    go_ret
    exact ⟨rfl, (Below.refl _ _).alloc (Nat.le_refl _) _⟩
  · subst h
    have hV2 := hV.out
    subst hV2
    clear hV
    go_enter Tryd.func66, Tryd.ntmps66
    go_wp2
    go_ret
    exact ⟨rfl, (Below.refl _ _).alloc (Nat.le_refl _) _⟩
  · have g1 : (k == 5) = false := beq_eq_false_iff_ne.2 h1
    have g2 : (k == 6) = false := beq_eq_false_iff_ne.2 h2
    have g3 : (k == 7) = false := beq_eq_false_iff_ne.2 h3
    have hV2 : Hid (V = false) := by
      show V = false
      rw [hV.out, Bool.eq_false_iff]; simp; omega
    clear hV h1 h2 h3
    go_enter Tryd.func66, Tryd.ntmps66
    go_wp2
    go_ret
    rw [hV2.out]
    exact ⟨rfl, (Below.refl _ _).alloc (Nat.le_refl _) _⟩

set_option maxRecDepth 100000 in
set_option maxHeartbeats 3200000 in
theorem rinserted_any (t : TR) (a b : Int) (w : World) :
    Calls Tryd.prog 67 #[tkV t a b] w fun e w' => e = .returned (.bool (insB t)) ∧ Below w.heap.size w w' := by
  obtain ⟨k, num, st, er⟩ := t
  show Calls _ _ #[.agg #[.int .i64 k, .int .i64 num, .string (S st), .int .i64 a, .int .i64 b]] _ _
  have hV : Hid (insB ⟨k, num, st, er⟩ = (decide (5 ≤ k) && decide (k ≤ 7))) := rfl
  generalize insB ⟨k, num, st, er⟩ = V at *
  have hk : (5 ≤ k ∧ k ≤ 7) ∨ (5 ≤ k ∧ ¬ k ≤ 7) ∨ ¬ 5 ≤ k := by omega
  rcases hk with ⟨h1, h2⟩ | ⟨h1, h2⟩ | h1
  · have hV2 : Hid (V = true) := by show V = true; rw [hV.out]; simp; omega
    clear hV
    go_enter Tryd.func67, Tryd.ntmps67
    go_wp2
    go_ret
    rw [hV2.out]
    exact ⟨rfl, (Below.refl _ _).alloc (Nat.le_refl _) _⟩
  · have hV2 : Hid (V = false) := by show V = false; rw [hV.out, Bool.eq_false_iff]; simp; omega
    clear hV
    go_enter Tryd.func67, Tryd.ntmps67
    go_wp2
    go_ret
    rw [hV2.out]
    exact ⟨rfl, (Below.refl _ _).alloc (Nat.le_refl _) _⟩
  · have hV2 : Hid (V = false) := by show V = false; rw [hV.out, Bool.eq_false_iff]; simp; omega
    clear hV
    go_enter Tryd.func67, Tryd.ntmps67
    go_wp2
    go_ret
    rw [hV2.out]
    exact ⟨rfl, (Below.refl _ _).alloc (Nat.le_refl _) _⟩

set_option maxRecDepth 100000 in
set_option maxHeartbeats 1000000 in
theorem equal_toks (ts : List Tok) (n : Nat) (hn : n = ts.length) (hm : n ≤ 9223372036854775806) (A1 A2 : Option Addr) (c1 c2 : Nat) (w : World)
    (h1 : InToks w A1 ts) (h2 : InToks w A2 ts) :
    Calls Tryd.prog 32 #[.slice A1 n c1, .slice A2 n c2] w fun e w' => e = .returned (.bool true) ∧ ∃ m, w' = w.drewN m := by
  by_cases h0 : n = 0
  · subst h0
    clear h1 h2 hn
    go_enter Tryd.func32, Tryd.ntmps32
    go_wp2
    go_loopw [5] (fun t wr => t = .int .i64 0 ∧ Hid (∃ m, wr = w.drewN m)) (fun _ _ => 0)
    case atStart => exact ⟨rfl, 0, rfl⟩
    case round =>
      obtain ⟨rfl, hW⟩ := hrel
      obtain ⟨m, rfl⟩ := hW
      go_wp2
      go_ret
      exact ⟨rfl, m, rfl⟩
  · rcases h1 with h1 | ⟨g1, f1, rfl, _, HC1⟩
    · rw [h1] at hn; simp at hn; omega
    rcases h2 with h2 | ⟨g2, f2, rfl, _, HC2⟩
    · rw [h2] at hn; simp at hn; omega
    have HC1 := Lib.hid HC1
    have HC2 := Lib.hid HC2
    have HN := Lib.hid hn
    clear hn
    go_enter Tryd.func32, Tryd.ntmps32
    go_wp2
    go_loopw [5] (fun t wr => ∃ k : Nat, k ≤ n ∧ t = .int .i64 k ∧ Hid (∃ m, wr = w.drewN m)) (fun t _ => n - (intOf t).toNat)
    case atStart => exact ⟨0, by omega, rfl, 0, rfl⟩
    case round =>
      obtain ⟨k, hk, rfl, hW⟩ := hrel
      obtain ⟨m, rfl⟩ := hW
      by_cases hlt : k < n
      · obtain ⟨t, ht⟩ : ∃ t, ts[k]? = some t := by
          have : k < ts.length := by rw [← HN.out]; exact hlt
          exact ⟨ts[k], List.getElem?_eq_getElem this⟩
        obtain ⟨⟨kd, nu, st, er⟩, a, b⟩ := t
        have x0 := HC1.out k _ ht 0 _ rfl
        have x1 := HC1.out k _ ht 1 _ rfl
        have x2 := HC1.out k _ ht 2 _ rfl
        have x3 := HC1.out k _ ht 3 _ rfl
        have x4 := HC1.out k _ ht 4 _ rfl
        have y0 := HC2.out k _ ht 0 _ rfl
        have y1 := HC2.out k _ ht 1 _ rfl
        have y2 := HC2.out k _ ht 2 _ rfl
        have y3 := HC2.out k _ ht 3 _ rfl
        have y4 := HC2.out k _ ht 4 _ rfl
        simp only [Nat.add_zero] at x0 y0
        clear ht
        go_wp2
        go_quiet (fail)
        go_wp2
        go_roundw
        case rel => exact ⟨k + 1, by omega, by go_num, _, rfl⟩
        case measure => simp [intOf]; omega
      · go_wp2
        go_ret
        exact ⟨rfl, m, rfl⟩

set_option maxRecDepth 100000 in
set_option maxHeartbeats 3200000 in
theorem rbalanced_any (w : World) (A : Option Addr) (n c : Nat) (ts : List Tok) (hn : n = ts.length) (hA : InToks w A ts) (hm : ts.length ≤ 9223372036854775806) :
    Calls Tryd.prog 35 #[.slice A n c] w fun e w' => e = .returned (.bool (balL ts)) ∧ Below w.heap.size w w' := by
  have HA := Lib.hid hA
  have hR : Hid (balL ts = (balF 0 (ts.drop 0) == some 0)) := rfl
  subst hn
  generalize balL ts = R at *
  clear hA
  go_enter Tryd.func35, Tryd.ntmps35
  go_wp2_with fail
  go_loopw [3, 4] (fun t3 t8 wr => ∃ k d, k ≤ ts.length ∧ d ≤ k ∧ t8 = .int .i64 (k : Nat) ∧ t3 = .int .i64 (d : Nat) ∧ Hid (R = (balF d (ts.drop k) == some 0)) ∧ Hid (Below w.heap.size w wr)) (fun _ t8 _ => ts.length - (intOf t8).toNat)
  case atStart => exact ⟨0, 0, by omega, by omega, rfl, rfl, hR, Below.refl _ _⟩
  case round =>
    obtain ⟨k, d, hk, hd, rfl, rfl, hF, hB⟩ := hrel
    clear hR
    by_cases hlt : k < ts.length
    · obtain ⟨⟨t, a, b⟩, ht⟩ : ∃ t, ts[k]? = some t := ⟨ts[k], List.getElem?_eq_getElem hlt⟩
      have hdrop : ts.drop k = (t, (a, b)) :: ts.drop (k + 1) := by
        rw [List.drop_eq_getElem_cons hlt]
        have : ts[k] = (t, (a, b)) := by
          have := List.getElem?_eq_getElem hlt
          rw [ht] at this; injection this with this; exact this.symm
        rw [this]
      rcases (HA.out.below hB.out) with hnil | ⟨bb, off, rfl, hbb, hcell⟩
      · rw [hnil] at hlt; simp at hlt
      have x0 := hcell k _ ht 0 _ rfl
      have x1 := hcell k _ ht 1 _ rfl
      have x2 := hcell k _ ht 2 _ rfl
      have x3 := hcell k _ ht 3 _ rfl
      have x4 := hcell k _ ht 4 _ rfl
      simp only [Nat.add_zero] at x0
      have HF := hF.out
      rw [hdrop, balF_cons] at HF
      obtain ⟨kd, nu, st, er⟩ := t
      simp only at HF x0 x1 x2
      have hkd : (kd = 5) ∨ (kd ≠ 5 ∧ kd = 7 ∧ d = 0) ∨ (kd ≠ 5 ∧ kd = 7 ∧ d ≠ 0) ∨ (kd ≠ 5 ∧ kd ≠ 7) := by omega
      clear hcell ht hdrop hF
      rcases hkd with h1 | ⟨h1, h2, h3⟩ | ⟨h1, h2, h3⟩ | ⟨h1, h2⟩
      · rw [if_pos h1] at HF
        have g1 : (kd == 5) = true := beq_iff_eq.2 h1
        have HF2 := Lib.hid HF
        clear h1 HF
        go_wp2
        go_roundw
        case rel => exact ⟨k + 1, d + 1, by omega, by omega, by go_num, by go_num, HF2, hB.out⟩
        case measure => simp [intOf]; omega
      · rw [if_neg h1, if_pos h2, if_pos h3] at HF
        have g1 : (kd == 5) = false := beq_eq_false_iff_ne.2 h1
        have g2 : (kd == 7) = true := beq_iff_eq.2 h2
        have HF2 := Lib.hid HF
        subst h3
        clear h1 h2 HF
        go_wp2
        go_ret
        exact ⟨ret_bool (by rw [HF2.out]; rfl), hB.out⟩
      · rw [if_neg h1, if_pos h2, if_neg h3] at HF
        have g1 : (kd == 5) = false := beq_eq_false_iff_ne.2 h1
        have g2 : (kd == 7) = true := beq_iff_eq.2 h2
        have HF2 := Lib.hid HF
        obtain ⟨d', rfl⟩ : ∃ d', d = d' + 1 := ⟨d - 1, by omega⟩
        rw [Nat.add_sub_cancel] at HF2
        have g3 : (((d' + 1 : Nat) : Int) == 0) = false := beq_eq_false_iff_ne.2 (by omega)
        have g4 : ((d' : Int) + 1 == 0) = false := beq_eq_false_iff_ne.2 (by omega)
        clear h1 h2 h3 HF
        go_wp2
        go_roundw
        case rel => exact ⟨k + 1, d', by omega, by omega, by go_num, by go_num, HF2, hB.out⟩
        case measure => simp [intOf]; omega
      · rw [if_neg h1, if_neg h2] at HF
        have g1 : (kd == 5) = false := beq_eq_false_iff_ne.2 h1
        have g2 : (kd == 7) = false := beq_eq_false_iff_ne.2 h2
        have HF2 := Lib.hid HF
        clear h1 h2 HF
        go_wp2
        go_roundw
        case rel => exact ⟨k + 1, d, by omega, by omega, by go_num, rfl, HF2, hB.out⟩
        case measure => simp [intOf]; omega
    · have hkn : k = ts.length := by omega
      subst hkn
      have HF := hF.out
      rw [List.drop_length] at HF
      have hz : Hid (R = ((d : Int) == 0)) := by
        unfold Hid
        rw [HF]
        show (some d == some 0) = _
        by_cases h : d = 0
        · subst h; rfl
        · have h1 : (some d == some 0) = false := beq_eq_false_iff_ne.2 (by intro q; injection q with q; exact h q)
          have h2 : ((d : Int) == 0) = false := beq_eq_false_iff_ne.2 (by omega)
          rw [h1, h2]
      clear hF HF
      cases hd0 : ((d : Int) == 0)
      · rw [hd0] at hz
        go_wp2
        go_ret
        exact ⟨ret_bool hz.out.symm, hB.out⟩
      · rw [hd0] at hz
        go_wp2
        go_ret
        exact ⟨ret_bool hz.out.symm, hB.out⟩



theorem remL_step (ts : List Tok) (k : Nat) (t : Tok) (ht : ts[k]? = some t) : remL (ts.take (k + 1)) = remL (ts.take k) ++ (if insB t.1 then [] else [t]) := by
  rw [List.take_add_one, ht, remL_append]
  congr 1
  show remL [t] = _
  show List.filter (fun t : Tok => !insB t.1) [t] = _
  cases h : insB t.1 <;> simp [h]
theorem remL_len (ts : List Tok) : (remL ts).length ≤ ts.length := List.length_filter_le _ _
def RemPost (ts : List Tok) (w : World) (e : Ending) (w' : World) : Prop :=
  ∃ A c, e = .returned (.slice A (remL ts).length c) ∧ InToks w' A (remL ts) ∧ Below w.heap.size w w'

set_option maxRecDepth 100000 in
set_option maxHeartbeats 3200000 in
theorem rremove_any (w : World) (A : Option Addr) (n c : Nat) (ts : List Tok) (hn : n = ts.length) (hA : InToks w A ts) (hm : ts.length ≤ 2932031007402) :
    Calls Tryd.prog 36 #[.slice A n c] w (RemPost ts w) := by
  have HA := Lib.hid hA
  subst hn
  clear hA
  go_enter Tryd.func36, Tryd.ntmps36
  go_wp2_with fail
  go_loopw [3, 4] (fun v i wr => ∃ k : Nat, i = .int .i64 k ∧ k ≤ ts.length ∧ Hid (wr.ownsRow w.heap.size 25 5 v (remL (ts.take k)).length (toksCells (remL (ts.take k)))) ∧ Hid (Below w.heap.size w wr)) (fun _ i _ => ts.length - (intOf i).toNat)
  case atStart => exact ⟨0, rfl, by omega, World.ownsRow_nil _ _ _ _, Below.refl _ _⟩
  case round =>
    obtain ⟨k, rfl, hk, hO, hB⟩ := hrel
    by_cases hlt : k < ts.length
    · obtain ⟨⟨t, a, b⟩, ht⟩ : ∃ t, ts[k]? = some t := ⟨ts[k], List.getElem?_eq_getElem hlt⟩
      obtain ⟨A3, c3, rfl⟩ := owns_form hO.out
      have hst := Lib.hid (remL_step ts k _ ht)
      have hle : (remL (ts.take k)).length ≤ k := Nat.le_trans (remL_len _) (by simp; omega)
      have hHA := HA.out.below hB.out
      clear HA
      rcases hHA with hnil | ⟨bb, off, rfl, hbb, hcell⟩
      · rw [hnil] at hlt; simp at hlt
      have x0 := hcell k _ ht 0 _ rfl
      have x1 := hcell k _ ht 1 _ rfl
      have x2 := hcell k _ ht 2 _ rfl
      have x3 := hcell k _ ht 3 _ rfl
      have x4 := hcell k _ ht 4 _ rfl
      simp only [Nat.add_zero] at x0
      clear hcell ht
      go_wp2_with fail
      refine (rinserted_any t a b _).mono ?_
      rintro e w1 ⟨rfl, hb1⟩
      have y0 := (hb1.cell hbb).trans x0
      have y1 := (hb1.cell (p := ⟨bb, off + k * 5 + 1, none⟩) hbb).trans x1
      have y2 := (hb1.cell (p := ⟨bb, off + k * 5 + 2, none⟩) hbb).trans x2
      have y3 := (hb1.cell (p := ⟨bb, off + k * 5 + 3, none⟩) hbb).trans x3
      have y4 := (hb1.cell (p := ⟨bb, off + k * 5 + 4, none⟩) hbb).trans x4
      have HO1 := Lib.hid (owns_below hO.out hb1)
      have HB1 := Lib.hid (hB.out.trans (hb1.mono hB.out.size))
      have hz1 := HB1.out.size
      obtain ⟨kd, nu, st, er⟩ := t
      simp only at y0 y1 y2
      clear hb1 x0 x1 x2 x3 x4 hO hB
      cases hi : insB ⟨kd, nu, st, er⟩
      · rw [hi] at hst
        obtain ⟨i0, hi0, hiz0, hiz1, hiz2⟩ := info_parts token_info
        clear hi
        go_wp2_with (at_builtin; refine wpList_append_own _ rfl _ _ 26 rfl w.heap.size 25 i0 _ 5 48 Tryd.underlying26 hi0 hiz0 hiz1 hiz2 rfl (by decide) _ _ _ rfl (HO1.out.alloc _) ⟨w1.heap.size, 0, none⟩ 1 1 (tokCells (⟨kd, nu, st, er⟩, (a, b))) rfl rfl (World.news_of_block (cs := #[.int .i64 kd, .int .i64 nu, .string (S st), .int .i64 a, .int .i64 b]) (t := 25) (fr := (0, 0)) (heap_alloc_new w1 _)) (tok_one _) (by unfold maxLen; omega) (by omega) (by simp; omega) ?_; intro v5 w5 hown5 hgrow5 _)
        have HO5 : Hid (w5.ownsRow w.heap.size 25 5 v5 (remL (ts.take (k + 1))).length (toksCells (remL (ts.take (k + 1))))) := by
          show World.ownsRow _ _ _ _ _ _ _
          have h := hst.out
          rw [if_neg (by decide)] at h
          rw [h, List.length_append, ← toks_snoc]
          exact hown5
        have HB5 : Hid (Below w.heap.size w w5) := by
          refine (HB1.out.alloc hz1 _).trans ⟨hgrow5.os, hgrow5.tape, hgrow5.output, hgrow5.size, fun j hj => hgrow5.block j (by simp; omega) (fun e => ?_)⟩
          have := (HO1.out.lt j e.symm).1; omega
        clear hown5 hgrow5
        go_roundw
        case rel => exact ⟨k + 1, by go_num, by omega, HO5, HB5⟩
        case measure => simp [intOf]; omega
      · rw [hi] at hst
        clear hi
        have HO5 : Hid (w1.ownsRow w.heap.size 25 5 (.slice A3 (remL (ts.take k)).length c3) (remL (ts.take (k + 1))).length (toksCells (remL (ts.take (k + 1))))) := by
          show World.ownsRow _ _ _ _ _ _ _
          have h := hst.out
          rw [if_pos rfl, List.append_nil] at h
          rw [h]; exact HO1.out
        go_wp2_with fail
        go_roundw
        case rel => exact ⟨k + 1, by go_num, by omega, HO5, HB1⟩
        case measure => simp [intOf]; omega
    · obtain rfl : k = ts.length := by omega
      obtain ⟨A3, c3, rfl⟩ := owns_form hO.out
      have HO := Lib.hid hO.out
      rw [List.take_length] at HO
      clear hO
      rw [List.take_length]
      go_wp2_with fail
      go_ret
      exact ⟨_, _, rfl, InToks.own HO.out rfl, hB.out⟩


theorem toks_inv (ts : List Tok) : ∀ (j : Nat) (u : Value), (toksCells ts)[j]? = some u → ∃ k t r, j = k * 5 + r ∧ ts[k]? = some t ∧ (tokCells t)[r]? = some u := by
  induction ts with
  | nil => intro j u h; simp [toksCells] at h
  | cons t r ih =>
    intro j u h
    have hl : (tokCells t).length = 5 := rfl
    have h : (tokCells t ++ toksCells r)[j]? = some u := h
    by_cases h5 : j < 5
    · rw [List.getElem?_append_left (by rw [hl]; exact h5)] at h
      exact ⟨0, t, j, by omega, rfl, h⟩
    · rw [List.getElem?_append_right (by rw [hl]; omega), hl] at h
      obtain ⟨k, t', q, e, h1, h2⟩ := ih _ _ h
      exact ⟨k + 1, t', q, by omega, by simpa using h1, h2⟩
theorem InToks.cells {w : World} {ad : Addr} {ts : List Tok} (h : InToks w (some ad) ts) : ∀ j u, (toksCells ts)[j]? = some u → w.cell? (ad.add j) = some u := by
  intro j u hj
  rcases h with rfl | ⟨b, off, e, _, hc⟩
  · simp [toksCells] at hj
  · injection e with e
    subst e
    obtain ⟨k, t, r, rfl, h1, h2⟩ := toks_inv ts j u hj
    rw [Addr.add_lit, ← Nat.add_assoc]
    exact hc k t h1 r u h2
theorem toks_one (ts : List Tok) : ∀ u ∈ toksCells ts, u.oneCell' = true := by
  intro u hu; obtain ⟨t, ht, hu⟩ := List.mem_flatMap.1 hu; exact tok_one t u hu

def ClonePost (ts : List Tok) (w : World) (e : Ending) (w' : World) : Prop :=
  ∃ v, e = .returned v ∧ w'.ownsRow w.heap.size 25 5 v ts.length (toksCells ts) ∧ Below w.heap.size w w'

set_option maxRecDepth 100000 in
set_option maxHeartbeats 3200000 in
theorem clone_any (w : World) (A : Option Addr) (n c : Nat) (ts : List Tok) (hn : n = ts.length) (hA : InToks w A ts) (hm : ts.length ≤ 2932031007402) :
    Calls Tryd.prog 65 #[.slice A n c] w (ClonePost ts w) := by
  subst hn
  have q22 : ∀ (w : World) (a : Option Addr) (n c n' c' : Nat), (binOp .eql 26 (.slice a n c) (.slice none n' c')).run Tryd.prog w = .ok (.bool a.isNone) w := fun w a n c n' c' => Lib.run_eql_slice_nil w _ _ a n c n' c' Tryd.underlying26
  cases A with
  | none =>
    have h0 : ts = [] := by
      rcases hA with h | ⟨b, off, e, _⟩
      · exact h
      · cases e
    subst h0
    clear hA
    go_enter Tryd.func65, Tryd.ntmps65
    go_wp2
    go_ret
    exact ⟨_, rfl, World.ownsRow_nil _ _ _ _, Below.refl _ _⟩
  | some ad =>
    have HA := Lib.hid hA.cells
    obtain ⟨i0, hi0, hiz0, hiz1, hiz2⟩ := info_parts token_info
    clear hA
    go_enter Tryd.func65, Tryd.ntmps65
    go_wp2_with (at_builtin; refine wpList_append_own _ rfl _ _ 26 rfl w.heap.size 25 i0 _ 5 48 Tryd.underlying26 hi0 hiz0 hiz1 hiz2 rfl (by decide) _ _ _ rfl (World.ownsRow_made w #[] 0 (Nat.le_refl _) (Nat.zero_le _) (by simp)) ad ts.length c (toksCells ts) rfl (toks_length ts) ?qc2 (toks_one ts) ?qc4 ?qc5 ?qc6 ?_)
    case qc2 => intro j u hj; exact Lib.cell?_alloc_some _ (HA.out j u hj)
    case qc4 => unfold maxLen; omega
    case qc5 => omega
    case qc6 => simp
    intro v' w1 hown hgrow _
    have HO := Lib.hid hown
    have HG := Lib.hid hgrow
    clear hown hgrow hi0 hiz0 hiz1 hiz2
    go_wp2
    go_ret
    refine ⟨_, rfl, by simpa using HO.out, ?_⟩
    exact ((Below.refl _ w).alloc (Nat.le_refl _) _).grown HG.out (by simp) (by intro k hk; simp [Value.ownBlock] at hk; omega)

theorem take_step (ts : List Tok) (k : Nat) (t : Tok) (ht : ts[k]? = some t) (h : remL (ts.take k) = ts.take k) (hi : insB t.1 = false) : remL (ts.take (k + 1)) = ts.take (k + 1) := by
  rw [remL_step ts k t ht, h, hi, List.take_add_one, ht]; rfl

def IdxPost (ts : List Tok) (w : World) (e : Ending) (w' : World) : Prop :=
  ∃ i : Int, e = .returned (.int .i64 i) ∧ ((i = -1 ∧ remL ts = ts) ∨ ∃ (k : Nat) (t : Tok), i = k ∧ ts[k]? = some t ∧ insB t.1 = true ∧ remL (ts.take k) = ts.take k) ∧ Below w.heap.size w w'

set_option maxRecDepth 100000 in
set_option maxHeartbeats 3200000 in
theorem indexf_any (w : World) (A : Option Addr) (n c : Nat) (ts : List Tok) (hn : n = ts.length) (hA : InToks w A ts) (hm : ts.length ≤ 2932031007402) :
    Calls Tryd.prog 94 #[.slice A n c, .func (.func 66) #[] #[]] w (IdxPost ts w) := by
  have HA := Lib.hid hA
  subst hn
  clear hA
  go_enter Tryd.func94, Tryd.ntmps94
  go_wp2_with fail
  go_loopw [8] (fun i wr => ∃ k : Nat, i = .int .i64 k ∧ k ≤ ts.length ∧ Hid (remL (ts.take k) = ts.take k) ∧ Hid (Below w.heap.size w wr)) (fun i _ => ts.length - (intOf i).toNat)
  case atStart => exact ⟨0, rfl, by omega, rfl, Below.refl _ _⟩
  case round =>
    obtain ⟨k, rfl, hk, hR, hB⟩ := hrel
    by_cases hlt : k < ts.length
    · obtain ⟨⟨t, a, b⟩, ht⟩ : ∃ t, ts[k]? = some t := ⟨ts[k], List.getElem?_eq_getElem hlt⟩
      have hHA := HA.out.below hB.out
      clear HA
      rcases hHA with hnil | ⟨bb, off, rfl, hbb, hcell⟩
      · rw [hnil] at hlt; simp at hlt
      have x0 := hcell k _ ht 0 _ rfl
      have x1 := hcell k _ ht 1 _ rfl
      have x2 := hcell k _ ht 2 _ rfl
      have x3 := hcell k _ ht 3 _ rfl
      have x4 := hcell k _ ht 4 _ rfl
      simp only [Nat.add_zero] at x0
      have HT := Lib.hid ht
      clear hcell ht
      go_wp2_with fail
      refine (inserted_any t a b _).mono ?_
      rintro e w1 ⟨rfl, hb1⟩
      have HB1 := Lib.hid (hB.out.trans (hb1.mono hB.out.size))
      clear hb1
      cases hi : insB t
      · have HR2 := Lib.hid (take_step ts k _ HT.out hR.out hi)
        clear hi
        go_wp2_with fail
        go_roundw
        case rel => exact ⟨k + 1, by go_num, by omega, HR2, HB1⟩
        case measure => simp [intOf]; omega
      · have HI := Lib.hid hi
        clear hi
        go_wp2_with fail
        go_ret
        exact ⟨k, rfl, .inr ⟨k, _, rfl, HT.out, HI.out, hR.out⟩, HB1.out⟩
    · obtain rfl : k = ts.length := by omega
      go_wp2_with fail
      go_ret
      have h := hR.out
      rw [List.take_length] at h
      exact ⟨-1, rfl, .inl ⟨rfl, h⟩, hB.out⟩


theorem owns_tok5 {w : World} {b g n c : Nat} {ts : List Tok} (h : w.ownsRow b 25 5 (.slice (some ⟨g, 0, none⟩) n c) n (toksCells ts)) {i : Nat} (hi : i < ts.length) (kd nu : Int) (st : Bs) (er a e : Int) :
    (((((w.setCell ⟨g, i * 5, none⟩ (.int .i64 kd)).setCell ⟨g, i * 5 + 1, none⟩ (.int .i64 nu)).setCell ⟨g, i * 5 + 2, none⟩ (.string (S st))).setCell ⟨g, i * 5 + 3, none⟩ (.int .i64 a)).setCell ⟨g, i * 5 + 4, none⟩ (.int .i64 e)).ownsRow b 25 5 (.slice (some ⟨g, 0, none⟩) n c) n (toksCells (ts.set i (⟨kd, nu, st, er⟩, (a, e)))) := by
  have h5 := ((((h.stored (i * 5) (.int .i64 kd)).1.stored (i * 5 + 1) (.int .i64 nu)).1.stored (i * 5 + 2) (.string (S st))).1.stored (i * 5 + 3) (.int .i64 a)).1.stored (i * 5 + 4) (.int .i64 e)
  have e5 : ((((((toksCells ts).set (i * 5) (.int .i64 kd)).set (i * 5 + 1) (.int .i64 nu)).set (i * 5 + 2) (.string (S st))).set (i * 5 + 3) (.int .i64 a)).set (i * 5 + 4) (.int .i64 e)) = toksCells (ts.set i (⟨kd, nu, st, er⟩, (a, e))) := by
    clear h h5
    induction ts generalizing i with
    | nil => simp at hi
    | cons t r ih =>
      cases i with
      | zero => rfl
      | succ i =>
        have hl : (tokCells t).length = 5 := rfl
        have ht : toksCells (t :: r) = tokCells t ++ toksCells r := rfl
        have hs : ∀ (xs : List Value) (q : Nat) (u : Value), (tokCells t ++ xs).set ((i + 1) * 5 + q) u = tokCells t ++ xs.set (i * 5 + q) u := by
          intro xs q u
          rw [List.set_append_right _ _ (by rw [hl]; omega), hl]
          congr 2
          omega
        have hs0 : ∀ (xs : List Value) (u : Value), (tokCells t ++ xs).set ((i + 1) * 5) u = tokCells t ++ xs.set (i * 5) u := fun xs u => hs xs 0 u
        rw [ht, hs0, hs, hs, hs, hs, ih (by simpa using hi)]
        rfl
  rw [← e5]
  exact h5.1

theorem run_clear_many (w : World) (t e ty : TypeId) (z : Value) (ht : Tryd.prog.underlying t = some (.slice e)) (hv : ∀ w, (zeroValue e).run Tryd.prog w = .ok z w) (b o n c : Nat) (hn : 0 < n) (zs : List Value)
    (hz : (Builtin.zeroCells z.cells n).toList = zs) (h1 : ∀ v ∈ zs, v.oneCell' = true)
    (hc : ∀ j, j < zs.length → (w.cell? ⟨b, o + j, none⟩).isSome = true) (hf : ∀ j, j < zs.length → w.frozen? ⟨b, o + j, none⟩ = false) :
    (Builtin.clear_ #[t] ty #[.slice (some ⟨b, o, none⟩) n c]).run Tryd.prog w = .ok (.tuple #[]) (w.setCells b o zs) := by
  have hst := run_storeCells_cells (P := Tryd.prog) b o zs 0 w (by simpa using hc) (by simpa using hf) h1
  simp only [Nat.add_zero] at hst
  obtain ⟨m, rfl⟩ : ∃ m, n = m + 1 := ⟨n - 1, by omega⟩
  simp [Builtin.clear_, run_underlying ht, hv, hz, hst]

def tokZ : Value := .agg #[.int .i64 0, .int .i64 0, .string ⟨#[]⟩, .int .i64 0, .int .i64 0]
theorem zero_tok (w : World) : (zeroValue 25).run Tryd.prog w = .ok tokZ w := by kernel_rfl
theorem zeros_one (n : Nat) : ∀ v ∈ (Builtin.zeroCells tokZ.cells n).toList, v.oneCell' = true := by
  intro v hv
  simp only [Builtin.zeroCells, Array.toList_map, List.mem_map] at hv
  obtain ⟨i, -, rfl⟩ := hv
  have h5 : i % tokZ.cells.size < 5 := Nat.mod_lt _ (by decide)
  generalize i % tokZ.cells.size = q at *
  have : ∀ q : Fin 5, (tokZ.cells[q.val]!).oneCell' = true := by decide
  exact this ⟨q, h5⟩
theorem zeros_len (n : Nat) : (Builtin.zeroCells tokZ.cells n).toList.length = n * 5 := by
  rw [Array.length_toList, size_zeroCells]; rfl

theorem size_cells (g : Nat) : ∀ (vs : List Value) (o : Nat) (w : World), (w.setCells g o vs).heap.size = w.heap.size := by
  intro vs
  induction vs with
  | nil => intro o w; rfl
  | cons v r ih => intro o w; rw [World.setCells, ih]; exact World.size_setCell _ _ _
theorem below_cells {B g : Nat} {a w : World} (h : Below B a w) (hg : B ≤ g) (o : Nat) : ∀ (vs : List Value), Below B a (w.setCells g o vs) := by
  intro vs
  induction vs generalizing w o with
  | nil => exact h
  | cons v r ih => rw [World.setCells]; exact ih (h.setCell (p := ⟨g, o, none⟩) hg v) _

def DelPost (ts : List Tok) (B : Nat) (w : World) (e : Ending) (w' : World) : Prop :=
  ∃ A c, e = .returned (.slice A (remL ts).length c) ∧ InToks w' A (remL ts) ∧ Below B w w'

structure DRel (w : World) (B g n c : Nat) (ts : List Tok) (i j : Nat) (cur : List Tok) (wr : World) : Prop where
  own : wr.ownsRow B 25 5 (.slice (some ⟨g, 0, none⟩) n c) n (toksCells cur)
  len : cur.length = n
  take : cur.take i = remL (ts.take j)
  drop : cur.drop j = ts.drop j
  below : Below B w wr

theorem DRel.at {w : World} {B g n c : Nat} {ts : List Tok} {i j : Nat} {cur : List Tok} {wr : World} (h : DRel w B g n c ts i j cur wr) {t : Tok} (ht : ts[j]? = some t) : cur[j]? = some t := by
  have h1 : (cur.drop j)[0]? = (ts.drop j)[0]? := by rw [h.drop]
  simpa [ht] using h1

theorem DRel.skip {w : World} {B g n c : Nat} {ts : List Tok} {i j : Nat} {cur : List Tok} {wr w2 : World} (h : DRel w B g n c ts i j cur wr) (ho : w2.ownsRow B 25 5 (.slice (some ⟨g, 0, none⟩) n c) n (toksCells cur))
    (hb : Below B w w2) (hs : remL (ts.take (j + 1)) = remL (ts.take j) ++ []) : DRel w B g n c ts i (j + 1) cur w2 :=
  ⟨ho, h.len, by rw [h.take, hs, List.append_nil], by rw [← List.drop_drop, h.drop, List.drop_drop], hb⟩
theorem DRel.put {w : World} {B g n c : Nat} {ts : List Tok} {i j : Nat} {cur : List Tok} {wr w2 : World} (h : DRel w B g n c ts i j cur wr) {t : Tok} (hij : i < j) (hi : i < cur.length) (ho : w2.ownsRow B 25 5 (.slice (some ⟨g, 0, none⟩) n c) n (toksCells (cur.set i t)))
    (hb : Below B w w2) (hs : remL (ts.take (j + 1)) = remL (ts.take j) ++ [t]) : DRel w B g n c ts (i + 1) (j + 1) (cur.set i t) w2 := by
  refine ⟨ho, by rw [List.length_set]; exact h.len, ?_, ?_, hb⟩
  · rw [hs, ← h.take, List.take_add_one, List.take_set_of_le (Nat.le_refl _), List.getElem?_set_self hi]; rfl
  · rw [List.drop_set_of_lt (by omega), ← List.drop_drop, h.drop, List.drop_drop]

set_option maxRecDepth 100000 in
set_option maxHeartbeats 6400000 in
theorem delete_any (w : World) (B : Nat) (A : Option Addr) (n c : Nat) (ts : List Tok) (hn : n = ts.length) (hA : w.ownsRow B 25 5 (.slice A n c) n (toksCells ts)) (hB : B ≤ w.heap.size) (hm : ts.length ≤ 2932031007402) :
    Calls Tryd.prog 64 #[.slice A n c, .func (.func 66) #[] #[]] w (DelPost ts B w) := by
  have HA := Lib.hid hA
  subst hn
  clear hA
  go_enter Tryd.func64, Tryd.ntmps64
  go_wp2_with fail
  refine (indexf_any _ A ts.length c ts rfl (InToks.own HA.out rfl) hm).mono ?_
  rintro e w1 ⟨i, rfl, hi, hb1⟩
  have HB1 := Lib.hid (hb1.mono hB)
  have HA1 := Lib.hid (owns_below HA.out hb1)
  clear hb1 HA
  rcases hi with ⟨rfl, hi⟩ | ⟨k, t, rfl, ht, hit, hk⟩
  · have HI := Lib.hid hi
    clear hi
    go_wp2_with fail
    go_ret
    unfold DelPost
    rw [HI.out]
    exact ⟨_, _, rfl, InToks.own HA1.out rfl, HB1.out⟩
  · have hkl : k < ts.length := (List.getElem?_eq_some_iff.1 ht).1
    obtain ⟨g, c', he, hg, hg', hnc, -⟩ := owns_cell HA1.out (by omega)
    injection he with e1 e2 e3
    subst e1 e3
    have hS : Hid (DRel w B g ts.length c ts k (k + 1) ts w1) := ⟨HA1.out, rfl, by rw [remL_step ts k t ht, hk, hit]; simp, rfl, HB1.out⟩
    have hne : ((k : Int) == -1) = false := beq_eq_false_iff_ne.2 (by omega)
    clear ht hit hk HA1 HB1
    go_wp2_with fail
    go_loopw [5, 6] (fun s5 s6 wr => ∃ (i j : Nat) (cur : List Tok), s5 = .int .i64 i ∧ s6 = .int .i64 j ∧ i < j ∧ j ≤ ts.length ∧ Hid (DRel w B g ts.length c ts i j cur wr)) (fun _ s6 _ => ts.length - (intOf s6).toNat)
    case atStart => exact ⟨k, k + 1, ts, rfl, by go_num, by omega, by omega, hS⟩
    case round =>
      obtain ⟨i, j, cur, rfl, rfl, hij, hj, hD⟩ := hrel
      clear hS
      by_cases hlt : j < ts.length
      · obtain ⟨⟨t, a, b⟩, ht⟩ : ∃ t, ts[j]? = some t := ⟨ts[j], List.getElem?_eq_getElem hlt⟩
        have hD2 := hD.out
        have hcj := hD2.at ht
        obtain ⟨g2, c2, he2, -, -, -, hcell⟩ := owns_cell hD2.own (by omega)
        injection he2 with q1 q2 q3
        injection q1 with q1
        injection q1 with q1
        subst q1 q3
        have x0 := hcell _ _ (toks_at cur j _ hcj 0 _ rfl)
        have x1 := hcell _ _ (toks_at cur j _ hcj 1 _ rfl)
        have x2 := hcell _ _ (toks_at cur j _ hcj 2 _ rfl)
        have x3 := hcell _ _ (toks_at cur j _ hcj 3 _ rfl)
        have x4 := hcell _ _ (toks_at cur j _ hcj 4 _ rfl)
        simp only [Nat.add_zero] at x0
        have hil : i < cur.length := by rw [hD2.len]; omega
        obtain ⟨told, hto⟩ : ∃ t, cur[i]? = some t := ⟨cur[i], List.getElem?_eq_getElem hil⟩
        have HT := Lib.hid ht
        have HC := Lib.hid (fun (W : World) (h : W.ownsRow B 25 5 (.slice (some ⟨g, 0, none⟩) ts.length c) ts.length (toksCells cur)) (r : Nat) (u : Value) (hu : (tokCells told)[r]? = some u) =>
          (h.cellAt (i * 5 + r) (by
            have : r < 5 := (List.getElem?_eq_some_iff.1 hu).1
            omega)).trans (toks_at cur i _ hto r u hu))
        clear hcell ht hcj hD2 hto
        go_wp2_with fail
        refine (inserted_any t a b _).mono ?_
        rintro e w2 ⟨rfl, hb2⟩
        have hbr := Nat.le_trans hB hD.out.below.size
        have hO2 := owns_below (owns_alloc_n hD.out.own _) hb2
        have HB2 := Lib.hid ((hD.out.below.alloc hbr _).trans (hb2.mono (by simp; omega)))
        have hz2 := hb2.size
        simp at hz2
        have v0 : w2.cell? ⟨wr.heap.size, 0, none⟩ = some (.int .i64 t.kind) := (hb2.cell (p := ⟨wr.heap.size, 0, none⟩) (by simp)).trans (cell_of_row _ _ 0 _ _ _ (heap_alloc_new wr _))
        have v1 : w2.cell? ⟨wr.heap.size, 1, none⟩ = some (.int .i64 t.num) := (hb2.cell (p := ⟨wr.heap.size, 1, none⟩) (by simp)).trans (cell_of_row _ _ 1 _ _ _ (heap_alloc_new wr _))
        have v2 : w2.cell? ⟨wr.heap.size, 2, none⟩ = some (.string (S t.str)) := (hb2.cell (p := ⟨wr.heap.size, 2, none⟩) (by simp)).trans (cell_of_row _ _ 2 _ _ _ (heap_alloc_new wr _))
        have v3 : w2.cell? ⟨wr.heap.size, 3, none⟩ = some (.int .i64 a) := (hb2.cell (p := ⟨wr.heap.size, 3, none⟩) (by simp)).trans (cell_of_row _ _ 3 _ _ _ (heap_alloc_new wr _))
        have v4 : w2.cell? ⟨wr.heap.size, 4, none⟩ = some (.int .i64 b) := (hb2.cell (p := ⟨wr.heap.size, 4, none⟩) (by simp)).trans (cell_of_row _ _ 4 _ _ _ (heap_alloc_new wr _))
        have z0 := HC.out _ hO2 0 _ rfl
        have z1 := HC.out _ hO2 1 _ rfl
        have z2 := HC.out _ hO2 2 _ rfl
        have z3 := HC.out _ hO2 3 _ rfl
        have z4 := HC.out _ hO2 4 _ rfl
        simp only [Nat.add_zero] at z0
        have fz : ∀ o, w2.frozen? ⟨g, o, none⟩ = false := fun o => hO2.frozenAt o
        have HO2 := Lib.hid hO2
        clear hb2 hO2 HC
        cases hi : insB t
        · have hst := Lib.hid (remL_step ts j _ HT.out)
          rw [hi] at hst
          clear hi
          obtain ⟨kd, nu, st, er⟩ := t
          have HW := Lib.hid (owns_tok5 HO2.out hil kd nu st er a b)
          go_wp2_with fail
          go_roundw
          case rel =>
            refine ⟨i + 1, j + 1, cur.set i (⟨kd, nu, st, er⟩, (a, b)), by go_num, by go_num, by omega, by omega, hD.out.put hij hil HW.out ?_ hst.out⟩
            exact ((((HB2.out.setCell (p := ⟨g, i * 5, none⟩) hg _).setCell (p := ⟨g, i * 5 + 1, none⟩) hg _).setCell (p := ⟨g, i * 5 + 2, none⟩) hg _).setCell (p := ⟨g, i * 5 + 3, none⟩) hg _).setCell (p := ⟨g, i * 5 + 4, none⟩) hg _
          case measure => simp [intOf]; omega
        · have hst := Lib.hid (remL_step ts j _ HT.out)
          rw [hi] at hst
          clear hi
          go_wp2_with fail
          go_roundw
          case rel =>
            exact ⟨i, j + 1, cur, rfl, by go_num, by omega, by omega, hD.out.skip HO2.out HB2.out hst.out⟩
          case measure => simp [intOf]; omega
      · obtain rfl : j = ts.length := by omega
        have hD2 := hD.out
        have htk : cur.take i = remL ts := by have := hD2.take; rwa [List.take_length] at this
        have hil : (remL ts).length = i := by rw [← htk, List.length_take, hD2.len]; omega
        have hlr : ∀ r, r < (Builtin.zeroCells tokZ.cells (ts.length - i)).toList.length → i * 5 + r < ts.length * 5 := by
          intro r hr
          rw [zeros_len] at hr
          have : (ts.length - i) * 5 = ts.length * 5 - i * 5 := Nat.sub_mul _ _ _
          omega
        have hcl : ∀ ty, (Builtin.clear_ #[26] ty #[.slice (some ⟨g, i * 5, none⟩) (ts.length - i) (c - i)]).run Tryd.prog wr = .ok (.tuple #[]) (wr.setCells g (i * 5) (Builtin.zeroCells tokZ.cells (ts.length - i)).toList) := by
          intro ty
          refine run_clear_many wr _ _ ty tokZ Tryd.underlying26 zero_tok g (i * 5) _ _ (by omega) _ rfl (zeros_one _) (fun r hr => ?_) (fun r hr => hD2.own.frozenAt _)
          rw [hD2.own.cellAt (i * 5 + r) (hlr r hr), List.getElem?_eq_getElem (by rw [toks_length, hD2.len]; exact hlr r hr)]
          rfl
        have HIN : Hid (InToks (wr.setCells g (i * 5) (Builtin.zeroCells tokZ.cells (ts.length - i)).toList) (some ⟨g, 0, none⟩) (remL ts)) := by
          refine .inr ⟨g, 0, rfl, ?_, fun k' t' ht' r u hu => ?_⟩
          · rw [size_cells]; exact (hD2.own.lt g rfl).2
          · have hr : r < 5 := (List.getElem?_eq_some_iff.1 hu).1
            have hk' : k' < i := by rw [← hil]; exact (List.getElem?_eq_some_iff.1 ht').1
            have hc' : cur[k']? = some t' := by
              rw [← htk, List.getElem?_take, if_pos hk'] at ht'
              exact ht'
            rw [Nat.zero_add, World.cell?_setCells_out g _ _ _ _ (fun _ _ => Or.inl (by show k' * 5 + r < i * 5; omega)), hD2.own.cellAt (k' * 5 + r) (by omega)]
            exact toks_at cur k' _ hc' r u hu
        have HBL : Hid (Below B w (wr.setCells g (i * 5) (Builtin.zeroCells tokZ.cells (ts.length - i)).toList)) := by
          exact below_cells hD2.below hg _ _
        generalize (Builtin.zeroCells tokZ.cells (ts.length - i)).toList = zs at *
        have HL := Lib.hid hil
        clear hD2 htk hil hlr hD
        go_wp2
        go_ret
        refine ⟨some ⟨g, 0, none⟩, c, ?_, HIN.out, HBL.out⟩
        rw [HL.out]; rfl

set_option maxRecDepth 100000 in
set_option maxHeartbeats 3200000 in
theorem remove_any (w : World) (A : Option Addr) (n c : Nat) (ts : List Tok) (hn : n = ts.length) (hA : InToks w A ts) (hm : ts.length ≤ 2932031007402) :
    Calls Tryd.prog 33 #[.slice A n c] w (RemPost ts w) := by
  have HA := Lib.hid hA
  subst hn
  clear hA
  go_enter Tryd.func33, Tryd.ntmps33
  go_wp2_with fail
  refine (clone_any w A ts.length c ts rfl HA.out hm).mono ?_
  rintro e w1 ⟨v1, rfl, ho1, hb1⟩
  obtain ⟨A1, c1, rfl⟩ := owns_form ho1
  have HO1 := Lib.hid ho1
  have HB1 := Lib.hid hb1
  have hz1 := hb1.size
  clear ho1 hb1 HA
  go_wp2_with fail
  refine (delete_any w1 w.heap.size A1 ts.length c1 ts rfl HO1.out hz1 hm).mono ?_
  rintro e w2 ⟨A2, c2, rfl, hi2, hb2⟩
  have HI2 := Lib.hid hi2
  have HB2 := Lib.hid (HB1.out.trans hb2)
  clear hi2 hb2
  go_wp2
  go_ret
  exact ⟨_, _, rfl, HI2.out, HB2.out⟩

end Go.Proofs.YtebfnlahiodefaaDoor
