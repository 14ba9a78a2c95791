/- Functions of the statements about tokens: the valid tokens of a list, a token's text, sameness apart from positions. Condition: at most 2932031007402 tokens (2^47 bytes), strings of at most 2^47 bytes. -/
import Derived.Test.YtbegenmhfmpgpaaDoorLayV1
import Derived.Test.YtbegenmhfmpgpaaDoorTokA
import Derived.Test.YtbegenmhfmpgpaaDoorLexD
namespace Go.Proofs.YtbegenmhfmpgpaaDoor
open Go.RowKit M

def valL (ts : List Tok) : List Tok := ts.filter fun t => valT t.1
theorem valL_append (a b : List Tok) : valL (a ++ b) = valL a ++ valL b := by simp [valL]
theorem valL_step (ts : List Tok) (k : Nat) (t : Tok) (ht : ts[k]? = some t) : valL (ts.take (k + 1)) = valL (ts.take k) ++ (if valT t.1 then [t] else []) := by
  rw [List.take_add_one, ht, valL_append]
  congr 1
  show List.filter (fun t : Tok => valT t.1) [t] = _
  cases h : valT t.1 <;> simp [h]
theorem valL_len (ts : List Tok) : (valL ts).length ≤ ts.length := List.length_filter_le _ _
def ValPost (ts : List Tok) (w : World) (e : Ending) (w' : World) : Prop :=
  ∃ v, e = .returned v ∧ w'.ownsRow w.heap.size 25 5 v (valL ts).length (toksCells (valL ts)) ∧ Below w.heap.size w w'

set_option maxRecDepth 100000 in
set_option maxHeartbeats 3200000 in
theorem valids_any (w : World) (A : Option Addr) (n c : Nat) (ts : List Tok) (hn : n = ts.length) (hA : InToks w A ts) (hm : ts.length ≤ 2932031007402) (hstr : ∀ t ∈ ts, t.1.str.length ≤ 140737488355328) :
    Calls Tryd.prog 14 #[.slice A n c] w (ValPost ts w) := by
  have HA := Lib.hid hA
  have HSTR := Lib.hid hstr
  clear hstr
  subst hn
  clear hA
  go_enter Tryd.func14, Tryd.ntmps14
  go_wp2_with fail
  go_loopw [3, 4] (fun v i wr => ∃ k : Nat, i = .int .i64 k ∧ k ≤ ts.length ∧ Hid (wr.ownsRow w.heap.size 25 5 v (valL (ts.take k)).length (toksCells (valL (ts.take k)))) ∧ Hid (Below w.heap.size w wr)) (fun _ i _ => ts.length - (intOf i).toNat)
  case atStart => exact ⟨0, rfl, by omega, World.ownsRow_nil _ _ _ _, Below.refl _ _⟩
  case round =>
    obtain ⟨k, rfl, hk, hO, hB⟩ := hrel
    by_cases hlt : k < ts.length
    · obtain ⟨⟨t, a, b⟩, ht⟩ : ∃ t, ts[k]? = some t := ⟨ts[k], List.getElem?_eq_getElem hlt⟩
      obtain ⟨A3, c3, rfl⟩ := owns_form hO.out
      have hst := Lib.hid (valL_step ts k _ ht)
      have hle : (valL (ts.take k)).length ≤ k := Nat.le_trans (valL_len _) (by simp; omega)
      have hHA := HA.out.below hB.out
      clear HA
      rcases hHA with hnil | ⟨bb, off, rfl, hbb, hcell⟩
      · rw [hnil] at hlt; simp at hlt
      have x0 := hcell k _ ht 0 _ rfl
      have x1 := hcell k _ ht 1 _ rfl
      have x2 := hcell k _ ht 2 _ rfl
      have x3 := hcell k _ ht 3 _ rfl
      have x4 := hcell k _ ht 4 _ rfl
      simp only [Nat.add_zero] at x0
      have HTK := Lib.hid ht
      clear hcell ht
      go_wp2_with fail
      refine (rvalid_any t a b (HSTR.out _ (List.mem_of_getElem? HTK.out)) _).mono ?_
      rintro e w1 ⟨rfl, hb1⟩
      have y0 := (hb1.cell hbb).trans x0
      have y1 := (hb1.cell (p := ⟨bb, off + k * 5 + 1, none⟩) hbb).trans x1
      have y2 := (hb1.cell (p := ⟨bb, off + k * 5 + 2, none⟩) hbb).trans x2
      have y3 := (hb1.cell (p := ⟨bb, off + k * 5 + 3, none⟩) hbb).trans x3
      have y4 := (hb1.cell (p := ⟨bb, off + k * 5 + 4, none⟩) hbb).trans x4
      have HO1 := Lib.hid (owns_below hO.out hb1)
      have HB1 := Lib.hid (hB.out.trans (hb1.mono hB.out.size))
      have hz1 := HB1.out.size
      obtain ⟨kd, nu, st, er⟩ := t
      simp only at y0 y1 y2
      clear hb1 x0 x1 x2 x3 x4 hO hB
      cases hi : valT ⟨kd, nu, st, er⟩
      · rw [hi] at hst
        clear hi
        have HO5 : Hid (w1.ownsRow w.heap.size 25 5 (.slice A3 (valL (ts.take k)).length c3) (valL (ts.take (k + 1))).length (toksCells (valL (ts.take (k + 1))))) := by
          show World.ownsRow _ _ _ _ _ _ _
          have h := hst.out
          rw [if_neg (by decide), List.append_nil] at h
          rw [h]; exact HO1.out
        go_wp2_with fail
        go_roundw
        case rel => exact ⟨k + 1, by go_num, by omega, HO5, HB1⟩
        case measure => simp [intOf]; omega
      · rw [hi] at hst
        obtain ⟨i0, hi0, hiz0, hiz1, hiz2⟩ := info_parts token_info
        clear hi
        go_wp2_with (at_builtin; refine wpList_append_own _ rfl _ _ 26 rfl w.heap.size 25 i0 _ 5 48 Tryd.underlying26 hi0 hiz0 hiz1 hiz2 rfl (by decide) _ _ _ rfl (HO1.out.alloc _) ⟨w1.heap.size, 0, none⟩ 1 1 (tokCells (⟨kd, nu, st, er⟩, (a, b))) rfl rfl (World.news_of_block (cs := #[.int .i64 kd, .int .i64 nu, .string (S st), .int .i64 a, .int .i64 b]) (t := 25) (fr := (0, 0)) (heap_alloc_new w1 _)) (tok_one _) (by unfold maxLen; omega) (by omega) (by simp; omega) ?_; intro v5 w5 hown5 hgrow5 _)
        have HO5 : Hid (w5.ownsRow w.heap.size 25 5 v5 (valL (ts.take (k + 1))).length (toksCells (valL (ts.take (k + 1))))) := by
          show World.ownsRow _ _ _ _ _ _ _
          have h := hst.out
          first | rw [if_pos trivial] at h | rw [if_pos rfl] at h
          rw [h, List.length_append, ← toks_snoc]
          exact hown5
        have HB5 : Hid (Below w.heap.size w w5) := by
          refine (HB1.out.alloc hz1 _).trans ⟨hgrow5.os, hgrow5.tape, hgrow5.output, hgrow5.size, fun j hj => hgrow5.block j (by simp; omega) (fun e => ?_)⟩
          have := (HO1.out.lt j e.symm).1; omega
        clear hown5 hgrow5
        go_roundw
        case rel => exact ⟨k + 1, by go_num, by omega, HO5, HB5⟩
        case measure => simp [intOf]; omega
    · obtain rfl : k = ts.length := by omega
      obtain ⟨A3, c3, rfl⟩ := owns_form hO.out
      have HO := Lib.hid hO.out
      rw [List.take_length] at HO
      clear hO
      rw [List.take_length]
      go_wp2_with fail
      go_ret
      exact ⟨_, rfl, HO.out, hB.out⟩



set_option maxRecDepth 100000 in
set_option maxHeartbeats 3200000 in
theorem rtext_any (t : TR) (a b : Int) (h0 : t.kind = 2 → 0 ≤ t.num) (h1 : t.num ≤ 9223372036854775807) (w : World) :
    Calls Tryd.prog 20 #[tkV t a b] w fun e w' => e = .returned (.string (S (textB t))) ∧ Below w.heap.size w w' := by
  obtain ⟨k, num, st, er⟩ := t
  show Calls _ _ #[.agg #[.int .i64 k, .int .i64 num, .string (S st), .int .i64 a, .int .i64 b]] _ _
  simp only at h0 h1
  by_cases h2 : k = 2
  · subst h2
    obtain ⟨n, rfl⟩ : ∃ n : Nat, num = n := ⟨num.toNat, by have := h0 rfl; omega⟩
    have HD := Lib.hid (fun W => rdecimal_any n (by omega) W)
    have hV : Hid (textB ⟨2, (n : Int), st, er⟩ = decB n) := rfl
    generalize textB ⟨2, (n : Int), st, er⟩ = V at *
    generalize decB n = D at *
    clear h0
    go_enter Tryd.func20, Tryd.ntmps20
    go_wp2_with fail
    refine (HD.out _).mono ?_
    rintro e w1 ⟨rfl, rfl⟩
    go_wp2_with fail
    go_ret
    exact ⟨by rw [hV.out]; rfl, (Below.refl _ _).alloc (Nat.le_refl _) _⟩
  · have g1 : (k == 2) = false := beq_eq_false_iff_ne.2 h2
    have hV : Hid (textB ⟨k, num, st, er⟩ = st) := by show textB _ = _; unfold textB; rw [if_neg h2]
    generalize textB ⟨k, num, st, er⟩ = V at *
    clear h0 h2
    go_enter Tryd.func20, Tryd.ntmps20
    go_wp2_with fail
    go_ret
    exact ⟨by rw [hV.out]; rfl, (Below.refl _ _).alloc (Nat.le_refl _) _⟩

/-- the same tokens, apart from positions -/
def SameT (ts us : List Tok) : Prop := ts.length = us.length ∧ ∀ (k : Nat) (t u : Tok), ts[k]? = some t → us[k]? = some u → t.1.kind = u.1.kind ∧ t.1.num = u.1.num ∧ t.1.str = u.1.str

set_option maxRecDepth 100000 in
set_option maxHeartbeats 3200000 in
theorem same_any (ts us : List Tok) (hs : SameT ts us) (hm : ts.length ≤ 9223372036854775806) (A1 A2 : Option Addr) (n1 n2 c1 c2 : Nat) (w : World) (hn1 : n1 = ts.length) (hn2 : n2 = us.length)
    (h1 : InToks w A1 ts) (h2 : InToks w A2 us) :
    Calls Tryd.prog 16 #[.slice A1 n1 c1, .slice A2 n2 c2] w fun e w' => e = .returned (.bool true) ∧ Below w.heap.size w w' := by
  have hn : n2 = n1 := by rw [hn1, hn2, hs.1]
  subst hn
  by_cases h0 : n2 = 0
  · subst h0
    clear h1 h2 hn1 hn2
    go_enter Tryd.func16, Tryd.ntmps16
    go_wp2
    go_loopw [5] (fun t wr => t = .int .i64 0 ∧ Hid (Below w.heap.size w wr)) (fun _ _ => 0)
    case atStart => exact ⟨rfl, Below.refl _ _⟩
    case round =>
      obtain ⟨rfl, hW⟩ := hrel
      go_wp2
      go_ret
      exact ⟨rfl, hW.out⟩
  · rcases h1 with h1 | ⟨g1, f1, rfl, _, HC1⟩
    · rw [h1] at hn1; simp at hn1; omega
    rcases h2 with h2 | ⟨g2, f2, rfl, _, HC2⟩
    · rw [h2] at hn2; simp at hn2; omega
    have HC1 := Lib.hid HC1
    have HC2 := Lib.hid HC2
    have HN := Lib.hid (And.intro hn1 hn2)
    have HS := Lib.hid hs
    have hb : n2 ≤ 9223372036854775806 := by omega
    clear hn1 hn2 hs
    go_enter Tryd.func16, Tryd.ntmps16
    go_wp2
    go_loopw [5] (fun t wr => ∃ k : Nat, k ≤ n2 ∧ t = .int .i64 k ∧ Hid (∃ m, wr = w.drewN m)) (fun t _ => n2 - (intOf t).toNat)
    case atStart => exact ⟨0, by omega, rfl, 0, rfl⟩
    case round =>
      obtain ⟨k, hk, rfl, hW⟩ := hrel
      obtain ⟨m, rfl⟩ := hW
      by_cases hlt : k < n2
      · obtain ⟨t, ht⟩ : ∃ t, ts[k]? = some t := ⟨ts[k]'(by have := HN.out.1; omega), List.getElem?_eq_getElem _⟩
        obtain ⟨u, hu⟩ : ∃ u, us[k]? = some u := ⟨us[k]'(by have := HN.out.2; omega), List.getElem?_eq_getElem _⟩
        obtain ⟨q0, q1, q2⟩ := HS.out.2 k t u ht hu
        obtain ⟨⟨kd, nu, st, er⟩, a, b⟩ := t
        obtain ⟨⟨kd2, nu2, st2, er2⟩, a2, b2⟩ := u
        simp only at q0 q1 q2
        subst q0 q1 q2
        have x0 := HC1.out k _ ht 0 _ rfl
        have x1 := HC1.out k _ ht 1 _ rfl
        have x2 := HC1.out k _ ht 2 _ rfl
        have y0 := HC2.out k _ hu 0 _ rfl
        have y1 := HC2.out k _ hu 1 _ rfl
        have y2 := HC2.out k _ hu 2 _ rfl
        simp only [Nat.add_zero] at x0 y0
        clear ht hu
        go_wp2
        go_quiet (fail)
        go_wp2
        go_roundw
        case rel => exact ⟨k + 1, by omega, by go_num, _, rfl⟩
        case measure => simp [intOf]; omega
      · go_wp2
        go_ret
        exact ⟨rfl, below_drewN' (Below.refl _ _) m⟩

end Go.Proofs.YtbegenmhfmpgpaaDoor
