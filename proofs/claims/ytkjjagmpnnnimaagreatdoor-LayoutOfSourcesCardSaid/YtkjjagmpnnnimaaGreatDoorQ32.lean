/- What the reference's item returns at every cursor: the item that the model names. What the reference's Scan returns at every string. The statements' own functions lines and kinds, and their fixed example. Condition: strconv.ErrRange holds an interface value. -/
import Derived.Test.YtkjjagmpnnnimaaGreatDoorQ31
import Derived.Test.YtkjjagmpnnnimaaGreatDoorQ4
import Derived.Test.YtkjjagmpnnnimaaGreatDoorQ26
import Derived.Test.YtkjjagmpnnnimaaGreatDoorQ29
namespace Go.Proofs.YtkjjagmpnnnimaaGreatDoor
open Go.RowKit M

theorem take_wlen (l : Bs) : l.take (wlen l) = l.takeWhile contB := by
  unfold wlen
  induction l with
  | nil => rfl
  | cons c r ih =>
    rw [List.takeWhile_cons]
    by_cases h : contB c = true
    · rw [if_pos h, List.length_cons, List.take_succ_cons, ih]
    · rw [if_neg h]; rfl
theorem wlen_take (l : Bs) : wlen (l.take (wlen l)) = wlen l := by
  rw [take_wlen]
  unfold wlen
  induction l with
  | nil => rfl
  | cons c r ih =>
    rw [List.takeWhile_cons]
    by_cases h : contB c = true
    · rw [if_pos h, List.takeWhile_cons, if_pos h, List.length_cons, List.length_cons, ih]
    · rw [if_neg h]; rfl
theorem digit_not_letter (c : UInt8) (h : digitB c = true) : letterB c = false := by
  unfold digitB at h
  unfold letterB
  simp at h ⊢
  omega
theorem word_cont (c : UInt8) (h : (letterB c || digitB c) = true) : contB c = true := by
  unfold contB; rw [h]; rfl

theorem ritem_any (w : World) (g : Nat) (s : ByteArray) (i : Nat) (p : Int × Int) (hc : RCur w g s i p) (hm : s.size ≤ 65536) (hi : i < s.size) :
    Calls Tryz.prog 10 #[.pointer (some ⟨g, 0, none⟩)] w (RItemPost w (ritemV (itemR (rest s i)) (itemN (rest s i)) p)) := by
  have hr := rest_cons s i hi
  have hlen := rest_length s i
  unfold itemR itemN
  cases h : (letterB s[i] || digitB s[i])
  · have h0 : wordN (rest s i) = 0 := by rw [hr]; unfold wordN; simp [h]
    simp only [h0, ne_eq, not_true_eq_false, if_false]
    simp only [Bool.or_eq_false_iff] at h
    by_cases hy : symB (rest s i) = []
    · rw [if_neg (fun k => k hy)]
      exact ritem_nosym w g s i p hc hm hi h.1 h.2 hy
    · rw [if_pos hy]
      exact ritem_sym w g s i p hc hm hi h.1 h.2 _ rfl hy (symB_le _)
  · have hN : wordN (rest s i) = wlen (rest s i) := by
      rw [hr]; unfold wordN; simp only [h, if_true]; rw [wlen_cons, word_cont _ h, if_pos rfl]
    have hN0 : 0 < wlen (rest s i) := by rw [hr, wlen_cons, word_cont _ h, if_pos rfl]; omega
    have hNl : i + wlen (rest s i) ≤ s.size := by have := wlen_le (rest s i); omega
    have HW : WEnd s i (wlen (rest s i)) := fun W => (rwordEnd_any s (by omega) i (by omega) W).mono fun _ _ ⟨a, b⟩ => ⟨a, b.symm⟩
    have hwt := wlen_take (rest s i)
    have hhd : ((rest s i).take (wlen (rest s i))).head? = some s[i] := by
      obtain ⟨n, hn⟩ : ∃ n, wlen (rest s i) = n + 1 := ⟨wlen (rest s i) - 1, by omega⟩
      rw [hn, hr]; rfl
    have htl : ((rest s i).take (wlen (rest s i))).length = wlen (rest s i) := by
      rw [List.length_take]; have := wlen_le (rest s i); omega
    rw [hN, if_pos (by omega), if_pos (by omega)]
    generalize wlen (rest s i) = N at *
    unfold wordR
    rw [hhd]
    cases hd : digitB s[i]
    · have hl : letterB s[i] = true := by rw [hd, Bool.or_false] at h; exact h
      rw [if_neg (by simp [hd])]
      cases hk : kwB ((rest s i).take N)
      · rw [if_neg (by decide)]
        by_cases h64 : ((rest s i).take N).length ≤ 64
        · rw [if_pos h64]
          have hn : nameB ((rest s i).take N) = true := by
            unfold nameB
            rw [hhd, hwt, hk, htl, decide_eq_true hN0, decide_eq_true (by rw [← htl]; exact h64)]
            simp [hl]
          exact ritem_name w g s i p hc hm hi N hN0 hNl HW hl hd hk hn
        · rw [if_neg h64]
          have hn : nameB ((rest s i).take N) = false := by
            unfold nameB
            rw [decide_eq_false h64]; simp
          exact ritem_long w g s i p hc hm hi N hN0 hNl HW hl hd hk hn
      · rw [if_pos rfl]
        exact ritem_kw w g s i p hc hm hi N hN0 hNl HW hl hd hk
    · rw [if_pos (by simp [hd])]
      have hl := digit_not_letter _ hd
      by_cases he : (intR ((rest s i).take N)).err = 0
      · have hx : ∃ n, intR ((rest s i).take N) = ⟨2, n, [], 0⟩ := by
          unfold intR at he ⊢
          split at he
          · exact absurd he (by decide)
          · rename_i h1
            rw [if_neg h1]
            split at he
            · exact absurd he (by decide)
            · rename_i h2
              rw [if_neg h2]
              split at he
              · rename_i h3; rw [if_pos h3]; exact ⟨_, rfl⟩
              · exact absurd he (by decide)
        obtain ⟨n, hx⟩ := hx
        rw [hx]
        exact ritem_digit_ok w g s i p hc hm hi N hN0 hNl HW hl hd n hx
      · have := ritem_digit_bad w g s i p hc hm hi N hN0 hNl HW hl hd _ rfl he
        unfold ritemV
        rw [if_neg he]
        exact this

end Go.Proofs.YtkjjagmpnnnimaaGreatDoor

namespace Go.Proofs.YtkjjagmpnnnimaaGreatDoor
open Go.RowKit M

/-- what holds of the reference's tokens, cursor and memory at each round's head: w the world when the call began -/
def RSLoop (w : World) (s : ByteArray) (R : List Tok × (Int × Int) × Int) (v : Value) (wr : World) : Prop :=
  ∃ (k f : Nat) (ts : List Tok), k ≤ s.size ∧ s.size + 1 ≤ f + k ∧ ts.length ≤ 16384 ∧ R = scF f (rest s k) (posA (1, 1) (s.data.toList.take k)) ts ∧
    RCur wr (w.heap.size + 1) s k (posA (1, 1) (s.data.toList.take k)) ∧ wr.ownsRow (w.heap.size + 2) 37 5 v ts.length (toksCells ts) ∧
    wr.heap[w.heap.size]? = some (.cells #[.int .i64 0, .int .i64 0] 25 (0, 0)) ∧ Below w.heap.size w wr

theorem rskip_at (w : World) (g : Nat) (s : ByteArray) (k : Nat) (hk : k ≤ s.size) (hm : s.size ≤ 65536) (hc : RCur w g s k (posA (1, 1) (s.data.toList.take k))) :
    Calls Tryz.prog 9 #[.pointer (some ⟨g, 0, none⟩)] w fun e w' => e = .returned (.bool (sk (rest s k)).2) ∧
      RCur w' g s (k + (sk (rest s k)).1) (posA (1, 1) (s.data.toList.take (k + (sk (rest s k)).1))) ∧ w.grownBy w' (some g) := by
  have hb := posA_bound (s.data.toList.take k) (1, 1) (by decide) (by decide)
  have hl : (s.data.toList.take k).length ≤ k := List.length_take_le _ _
  simp only at hb
  refine (rskip_any w g s k _ hc hm hk (by omega) (by omega) (by omega) (by omega)).mono ?_
  rintro e w' ⟨he, h1, h2⟩
  unfold posR at h1
  rw [posA_rest] at h1
  exact ⟨he, h1, h2⟩

theorem rstep_at (W : World) (g : Nat) (s : ByteArray) (j : Nat) (hW : RCur W g s j (posA (1, 1) (s.data.toList.take j))) (hm : s.size ≤ 65536) (hj : j < s.size) :
    Calls Tryz.prog 11 #[.pointer (some ⟨g, 0, none⟩)] W (StepPost W g s (j + 1) (posA (1, 1) (s.data.toList.take (j + 1)))) := by
  have hb := posA_bound (s.data.toList.take j) (1, 1) (by decide) (by decide)
  have hl : (s.data.toList.take j).length ≤ j := List.length_take_le _ _
  simp only at hb
  rw [posA_take (1, 1) s j hj]
  exact rstep_any W g s j _ hW hm hj (by omega) (by omega) (by omega) (by omega)

set_option maxRecDepth 100000 in
set_option maxHeartbeats 2000000 in
theorem rscan_short (s : ByteArray) (hm : s.size ≤ 65536) (w : World) :
    Calls Tryz.prog 4 #[.string s] w (ScanPost (scan s.data.toList) w) := by
  have hlen : s.data.toList.length = s.size := by simp
  have hS : Hid (scan s.data.toList = scF (s.size + 1) (rest s 0) (1, 1) []) := by
    unfold Hid scan; rw [hlen, if_neg (by omega)]; rfl
  clear hlen
  generalize scan s.data.toList = R at *
  have h65 : decide (65536 < (s.size : Int)) = false := by simp; omega
  go_enter Tryz.func4, Tryz.ntmps4
  go_wp2_with fail
  go_loopw [5] (fun v wr => RSLoop w s R v wr) (fun _ wr => remR wr (w.heap.size + 1) s)
  case atStart =>
    refine ⟨0, s.size + 1, [], by omega, by omega, by decide, hS.out, ?_, World.ownsRow_nil _ _ _ _, ?_, ?_⟩
    · unfold RCur
      have := heap_alloc_new (w.alloc (.cells #[.int .i64 0, .int .i64 0] 25)) (.cells #[.string s, .int .i64 0, .int .i64 1, .int .i64 1] 35)
      simpa [posA] using this
    · rw [Below.heap_alloc _ _ _ (by simp)]
      exact heap_alloc_new w _
    · exact ((Below.refl _ _).alloc (Nat.le_refl _) _).alloc (by simp) _
  case round =>
    obtain ⟨k, f, ts, hk, hf, hts, hR, hC, hO, hP, hB⟩ := hrel
    obtain ⟨f, rfl⟩ : ∃ x, f = x + 1 := ⟨f - 1, by omega⟩
    have hst := scF_step f (rest s k) (posA (1, 1) (s.data.toList.take k)) ts
    have hsk := sk_le (rest s k)
    rw [posA_rest, rest_drop] at hst
    have HK := rskip_at wr _ s k hk hm hC
    rw [rest_length] at hsk
    generalize sk (rest s k) = kk at hst hsk HK
    obtain ⟨m, ok⟩ := kk
    simp only at hst hsk HK
    have HKH := Lib.hid HK
    have HO := Lib.hid hO
    clear hO HK
    cases ok
    · rw [if_pos rfl] at hst
      have hz : Hid (R = ([], posA (1, 1) (s.data.toList.take (k + m)), 2)) := hR.trans hst
      clear hst hR
      go_wp2_with fail
      refine HKH.out.mono ?_
      rintro e w1 ⟨rfl, hC1, hG1⟩
      generalize posA (1, 1) (s.data.toList.take (k + m)) = q at *
      obtain ⟨a, b⟩ := q
      have hP1 : w1.heap[w.heap.size]? = some (.cells #[.int .i64 0, .int .i64 0] 25 (0, 0)) := (hG1.block _ (by have := hC.lt; omega) (by simp)).trans hP
      have d1 : w1.cell? ⟨w.heap.size + 1, 2, none⟩ = some (.int .i64 a) := hC1.c2
      have d2 : w1.cell? ⟨w.heap.size + 1, 3, none⟩ = some (.int .i64 b) := hC1.c3
      have p0 : w1.cell? ⟨w.heap.size, 0, none⟩ = some (.int .i64 0) := cell_of_row w1 _ 0 _ _ _ hP1
      have p1 : w1.cell? ⟨w.heap.size, 1, none⟩ = some (.int .i64 0) := cell_of_row w1 _ 1 _ _ _ hP1
      have q0 : ∀ i, w1.frozen? ⟨w.heap.size, i, none⟩ = false := fun i => by simp [World.frozen?, hP1]
      have HP1 := Lib.hid hP1
      have HG := Lib.hid hG1
      have HB := Lib.hid hB
      have HC := Lib.hid hC
      have HC1 := Lib.hid hC1
      clear hP hP1 hG1 hB hC hC1
      clear HKH
      go_wp2
      go_region
      go_wp2
      refine bodyPost_ret (v := .tuple #[.slice none 0 0, .agg #[.int .i64 a, .int .i64 b], .int .i64 2]) ?_ rfl ?_
      · simp [results, Tryz.results4, go_sem, p0, p1]
      · rw [hz.out]
        exact ⟨_, rfl, World.ownsRow_nil _ _ _ _, below_drew (((below_grown HB.out HG.out (by omega) (Nat.le_refl _)).setCell (by simp) _).setCell (by simp) _)⟩
    · rw [if_neg (by decide)] at hst
      go_wp2_with fail
      refine HKH.out.mono ?_
      rintro e w1 ⟨rfl, hC1, hG1⟩
      clear HKH
      have hP1 : w1.heap[w.heap.size]? = some (.cells #[.int .i64 0, .int .i64 0] 25 (0, 0)) := (hG1.block _ (by have := hC.lt; omega) (by simp)).trans hP
      have HB1 : Hid (Below w.heap.size w w1) := below_grown hB hG1 (by omega) (Nat.le_refl _)
      have HO1 : Hid (w1.ownsRow (w.heap.size + 2) 37 5 u5 ts.length (toksCells ts)) := owns_grown HO.out hG1 (by omega)
      have hrem : Hid (remR wr (w.heap.size + 1) s = s.size - k) := remR_is hC
      have hlt1 : w.heap.size + 1 < w1.heap.size := hC1.lt
      have hkm : k + m ≤ s.size := by omega
      clear hP hB hC hG1 HO
      by_cases hend : k + m = s.size
      · have he : rest s (k + m) = [] := rest_end s (k + m) (by omega)
        rw [if_pos he] at hst
        have hz : Hid (R = (ts, (0, 0), 0)) := hR.trans hst
        have d0 : w1.cell? ⟨w.heap.size + 1, 1, none⟩ = some (.int .i64 ((k + m : Nat) : Int)) := hC1.c1
        have q5 : (((k + m : Nat) : Int) == (s.size : Int)) = true := beq_iff_eq.2 (by omega)
        rw [hend] at d0
        have p0 : w1.cell? ⟨w.heap.size, 0, none⟩ = some (.int .i64 0) := cell_of_row w1 _ 0 _ _ _ hP1
        have p1 : w1.cell? ⟨w.heap.size, 1, none⟩ = some (.int .i64 0) := cell_of_row w1 _ 1 _ _ _ hP1
        have q0 : ∀ i, w1.frozen? ⟨w.heap.size, i, none⟩ = false := fun i => by simp [World.frozen?, hP1]
        have HP1 := Lib.hid hP1
        clear hst hR he hC1 hend hP1
        go_wp2
        refine bodyPost_ret (v := .tuple #[u5, .agg #[.int .i64 0, .int .i64 0], .int .i64 0]) ?_ rfl ?_
        · simp [results, Tryz.results4, go_sem, p0, p1]
        · rw [hz.out]
          exact ⟨_, rfl, owns_base (owns_grown HO1.out (only_set (only_set (only_refl w1 (some w.heap.size)) _ _) _ _) (by omega)) (by omega), (HB1.out.setCell (by simp) _).setCell (by simp) _⟩
      · have hne : rest s (k + m) ≠ [] := by intro h; have := congrArg List.length h; rw [rest_length] at this; simp at this; omega
        rw [if_neg hne, posA_rest, rest_drop] at hst
        have HI := ritem_any w1 (w.heap.size + 1) s (k + m) _ hC1 hm (by omega)
        have hIN := itemN_le (rest s (k + m))
        have hIP := itemN_pos (rest s (k + m))
        rw [rest_length] at hIN
        generalize itemR (rest s (k + m)) = T at *
        generalize itemN (rest s (k + m)) = N at *
        obtain ⟨kd, nu, st, er⟩ := T
        unfold ritemV at HI
        simp only at HI hst hIP
        have HSTEP := Lib.hid (fun (W : World) (j : Nat) (hW : RCur W (w.heap.size + 1) s j (posA (1, 1) (s.data.toList.take j))) (hj : j < s.size) => rstep_at W (w.heap.size + 1) s j hW hm hj)
        obtain ⟨q, hq⟩ : ∃ q, posA (1, 1) (s.data.toList.take (k + m)) = q := ⟨_, rfl⟩
        rw [hq] at HI hst hC1
        have HQ := Lib.hid hq
        clear hq
        obtain ⟨a, b⟩ := q
        obtain ⟨A, c, rfl⟩ := owns_form HO1.out
        have d0 : w1.cell? ⟨w.heap.size + 1, 1, none⟩ = some (.int .i64 ((k + m : Nat) : Int)) := hC1.c1
        have q5 : (((k : Int) + (m : Int)) == (s.size : Int)) = false := beq_eq_false_iff_ne.2 (by omega)
        have HC1 := Lib.hid hC1
        have HP1 := Lib.hid hP1
        have HST := Lib.hid hst
        have hRR := Lib.hid hR
        have HIN := Lib.hid hIN
        have HIP := Lib.hid hIP
        clear hC1 hP1 hst hR hne hIN hIP
        by_cases her : er = 0
        · rw [if_pos her] at HI
          have HIH := Lib.hid HI
          clear HI
          go_wp2_with fail
          refine HIH.out.mono ?_
          rintro e w2 ⟨rfl, hb2⟩
          clear d0
          have hlt2 : w1.heap.size ≤ w2.heap.size := hb2.size
          obtain ⟨hc2, hf2⟩ := bcell_alloc hb2
          have x0 : ∀ x : Obj, (w2.alloc x).cell? ⟨w.heap.size, 0, none⟩ = some (.int .i64 0) := fun x => by rw [hc2 x _ _ (by omega)]; exact cell_of_row w1 _ 0 _ _ _ HP1.out
          have x1 : ∀ x : Obj, (w2.alloc x).cell? ⟨w.heap.size, 1, none⟩ = some (.int .i64 0) := fun x => by rw [hc2 x _ _ (by omega)]; exact cell_of_row w1 _ 1 _ _ _ HP1.out
          have y0 : ∀ (x : Obj) i, (w2.alloc x).frozen? ⟨w.heap.size, i, none⟩ = false := fun x i => by rw [hf2 x _ _ (by omega)]; simp [World.frozen?, HP1.out]
          have x2 : ∀ x : Obj, (w2.alloc x).cell? ⟨w.heap.size + 1, 2, none⟩ = some (.int .i64 a) := fun x => by rw [hc2 x _ _ (by omega)]; exact HC1.out.c2
          have x3 : ∀ x : Obj, (w2.alloc x).cell? ⟨w.heap.size + 1, 3, none⟩ = some (.int .i64 b) := fun x => by rw [hc2 x _ _ (by omega)]; exact HC1.out.c3
          have HB2 := Lib.hid hb2
          have HC2 := Lib.hid hc2
          have HF2 := Lib.hid hf2
          clear hb2 hc2 hf2
          by_cases hfull : ts.length = 16384
          · have hit : itErr ⟨kd, nu, st, er⟩ ts.length = 10 := by unfold itErr; rw [if_pos ⟨her, hfull⟩]
            have hz : Hid (R = ([], (a, b), 10)) := by
              have h1 := HST.out; rw [hit, if_pos (by decide)] at h1; exact hRR.out.trans h1
            have g1 : (er == 0) = true := beq_iff_eq.2 her
            have g2 : ((ts.length : Int) == 16384) = true := beq_iff_eq.2 (by omega)
            clear hit her hfull HST hRR
            go_wp2
            go_region
            go_wp2
            refine bodyPost_ret (v := .tuple #[.slice none 0 0, .agg #[.int .i64 a, .int .i64 b], .int .i64 10]) ?_ rfl ?_
            · simp [results, Tryz.results4, go_sem, x0, x1]
            · rw [hz.out]
              exact ⟨_, rfl, World.ownsRow_nil _ _ _ _, below_drew ((((HB1.out.trans (HB2.out.mono (by omega))).alloc (by omega) _).setCell (by simp) _).setCell (by simp) _)⟩
          · have hit : itErr ⟨kd, nu, st, er⟩ ts.length = 0 := by unfold itErr; rw [if_neg (fun h => hfull h.2)]; exact her
            have hz : Hid (R = scF f (rest s (k + m + N)) (posA (1, 1) (s.data.toList.take (k + m + N))) (ts ++ [(⟨kd, nu, st, er⟩, (a, b))])) := by
              have h1 := HST.out; rw [hit, if_neg (by decide)] at h1; exact hRR.out.trans h1
            have hNp : 0 < N := HIP.out her
            have hNl : k + m + N ≤ s.size := by have := HIN.out; omega
            have g1 : (er == 0) = true := beq_iff_eq.2 her
            have g2 : ((ts.length : Int) == 16384) = false := beq_eq_false_iff_ne.2 (by omega)
            have g3 : (er != 0) = false := by simp [her]
            have HER := Lib.hid her
            have htl : ts.length < 16384 := by omega
            clear hit her hfull HST hRR
            obtain ⟨i0, hi, hz0, hz1, hz2⟩ := info_parts token_info
            have HOW := Lib.hid (owns_below HO1.out HB2.out)
            go_wp2_with (at_builtin; refine wpList_append_own _ rfl _ _ 23 rfl (w.heap.size + 2) 37 i0 (.agg #[.int .i64 0, .int .i64 0, .string ⟨#[]⟩, .int .i64 0, .int .i64 0]) 5 48 Tryz.underlying23 hi hz0 hz1 hz2 rfl (by decide) _ _ _ rfl ((HOW.out.alloc _).alloc _) ⟨w2.heap.size + 1, 0, none⟩ 1 1 (tokCells (⟨kd, nu, st, er⟩, (a, b))) rfl rfl ?c2 ?c3 ?c4 ?c5 ?c6 ?_)
            case c2 => exact tok_cells w2 (⟨kd, nu, st, er⟩, (a, b)) _
            case c3 => intro u hu; simp [tokCells] at hu; rcases hu with rfl | rfl | rfl | rfl | rfl <;> rfl
            case c4 => unfold maxLen; omega
            case c5 => omega
            case c6 => simp; omega
            intro v3 w3 hown3 hgrow3 _
            rw [toks_snoc] at hown3
            have hob := HOW.out.lt
            have hC3 : RCur w3 (w.heap.size + 1) s (k + m) (a, b) := by
              have h1 : RCur w2 (w.heap.size + 1) s (k + m) (a, b) := (HB2.out.block _ (by omega)).trans HC1.out
              have h2 : RCur (w2.alloc (.cells #[.int .i64 kd, .int .i64 nu, .string (S st), .int .i64 a, .int .i64 b] 37)) (w.heap.size + 1) s (k + m) (a, b) := (Below.heap_alloc _ _ _ h1.lt).trans h1
              have h3 : RCur ((w2.alloc (.cells #[.int .i64 kd, .int .i64 nu, .string (S st), .int .i64 a, .int .i64 b] 37)).alloc (.cells #[.int .i64 kd, .int .i64 nu, .string (S st), .int .i64 a, .int .i64 b] 37)) (w.heap.size + 1) s (k + m) (a, b) := (Below.heap_alloc _ _ _ h2.lt).trans h2
              exact h3.grown hgrow3 (fun e => by have := (hob _ e.symm).1; omega)
            have hP3 : Hid (w3.heap[w.heap.size]? = some (.cells #[.int .i64 0, .int .i64 0] 25 (0, 0))) := by
              refine (hgrow3.block _ (by simp; omega) (fun e => by have := (hob _ e.symm).1; omega)).trans ?_
              rw [Below.heap_alloc _ _ _ (by simp; omega), Below.heap_alloc _ _ _ (by omega)]
              exact (HB2.out.block _ (by omega)).trans HP1.out
            have hB3 : Hid (Below w.heap.size w w3) := by
              have h1 := ((HB1.out.trans (HB2.out.mono (by omega))).alloc (by omega) (.cells #[.int .i64 kd, .int .i64 nu, .string (S st), .int .i64 a, .int .i64 b] 37)).alloc (by simp; omega) (.cells #[.int .i64 kd, .int .i64 nu, .string (S st), .int .i64 a, .int .i64 b] 37)
              exact ⟨hgrow3.os.trans h1.os, hgrow3.tape.trans h1.tape, hgrow3.output.trans h1.output, Nat.le_trans h1.size hgrow3.size, fun i hi => (hgrow3.block i (by simp; omega) (fun e => by have := (hob _ e.symm).1; omega)).trans (h1.block i hi)⟩
            have HO3 := Lib.hid hown3
            have HC3 : Hid (RCur w3 (w.heap.size + 1) s (k + m) (posA (1, 1) (s.data.toList.take (k + m)))) := by unfold Hid; rw [HQ.out]; exact hC3
            clear hown3 hgrow3 hob hC3 x0 x1 x2 x3 y0
            clear q5 g1 g2 g3
            obtain ⟨wo, rfl⟩ : ∃ wo : World, wo = w3 := ⟨_, rfl⟩
            go_wp2
            go_loopw [10] (fun t wi => ∃ j : Nat, j ≤ N ∧ t = .int .i64 j ∧ Hid (RCur wi (w.heap.size + 1) s (k + m + j) (posA (1, 1) (s.data.toList.take (k + m + j))) ∧ wo.grownBy wi (some (w.heap.size + 1)))) (fun t _ => N - (intOf t).toNat)
            case atStart => exact ⟨0, by omega, rfl, HC3.out, only_refl _ _⟩
            case round =>
              obtain ⟨j, hj, rfl, hJ⟩ := hrel
              obtain ⟨hC4, hG4⟩ := hJ.out
              by_cases hlj : j < N
              · have HST4 := Lib.hid (HSTEP.out wr (k + m + j) hC4 (by omega))
                have HG4 := Lib.hid hG4
                clear hC4 hG4 hJ
                go_wp2_with fail
                refine HST4.out.mono ?_
                rintro e w5 ⟨rfl, hC5, hG5⟩
                have HJ5 : Hid (RCur w5 (w.heap.size + 1) s (k + m + (j + 1)) (posA (1, 1) (s.data.toList.take (k + m + (j + 1)))) ∧ wo.grownBy w5 (some (w.heap.size + 1))) := ⟨hC5, only_trans HG4.out hG5⟩
                clear hC5 hG5
                go_wp2
                go_roundw
                case rel => exact ⟨j + 1, by omega, by go_num, HJ5⟩
                case measure => simp [intOf]; omega
              · obtain rfl : j = N := by omega
                have HC4 := Lib.hid hC4
                have HB4 : Hid (Below w.heap.size w wr) := below_grown hB3.out hG4 (by omega) (Nat.le_refl _)
                have HO4 : Hid (wr.ownsRow (w.heap.size + 2) 37 5 v3 (ts ++ [((⟨kd, nu, st, er⟩ : TR), (a, b))]).length (toksCells (ts ++ [(⟨kd, nu, st, er⟩, (a, b))]))) := by
                  unfold Hid
                  rw [List.length_append]
                  exact owns_grown HO3.out hG4 (by omega)
                have HP4 : Hid (wr.heap[w.heap.size]? = some (.cells #[.int .i64 0, .int .i64 0] 25 (0, 0))) :=
                  (hG4.block _ (lt_of_some hP3.out) (by simp)).trans hP3.out
                have HR4 : Hid (remR wr (w.heap.size + 1) s = s.size - (k + m + j)) := remR_is hC4
                clear hC4 hG4 hJ
                go_wp2
                go_roundw
                case rel => exact ⟨k + m + j, f, ts ++ [(⟨kd, nu, st, er⟩, (a, b))], hNl, by omega, by simp; omega, hz.out, HC4.out, HO4.out, HP4.out, HB4.out⟩
                case measure => rw [hrem.out, HR4.out]; omega
        · rw [if_neg her] at HI
          have HIH := Lib.hid HI
          clear HI
          go_wp2_with fail
          refine HIH.out.mono ?_
          rintro e w2 ⟨rfl, hb2⟩
          clear d0
          have hlt2 : w1.heap.size ≤ w2.heap.size := hb2.size
          obtain ⟨hc2, hf2⟩ := bcell_alloc hb2
          have x0 : ∀ x : Obj, (w2.alloc x).cell? ⟨w.heap.size, 0, none⟩ = some (.int .i64 0) := fun x => by rw [hc2 x _ _ (by omega)]; exact cell_of_row w1 _ 0 _ _ _ HP1.out
          have x1 : ∀ x : Obj, (w2.alloc x).cell? ⟨w.heap.size, 1, none⟩ = some (.int .i64 0) := fun x => by rw [hc2 x _ _ (by omega)]; exact cell_of_row w1 _ 1 _ _ _ HP1.out
          have y0 : ∀ (x : Obj) i, (w2.alloc x).frozen? ⟨w.heap.size, i, none⟩ = false := fun x i => by rw [hf2 x _ _ (by omega)]; simp [World.frozen?, HP1.out]
          have x2 : ∀ x : Obj, (w2.alloc x).cell? ⟨w.heap.size + 1, 2, none⟩ = some (.int .i64 a) := fun x => by rw [hc2 x _ _ (by omega)]; exact HC1.out.c2
          have x3 : ∀ x : Obj, (w2.alloc x).cell? ⟨w.heap.size + 1, 3, none⟩ = some (.int .i64 b) := fun x => by rw [hc2 x _ _ (by omega)]; exact HC1.out.c3
          have HB2 := Lib.hid hb2
          have HC2 := Lib.hid hc2
          have HF2 := Lib.hid hf2
          clear hb2 hc2 hf2
          have hit : itErr ⟨kd, nu, st, er⟩ ts.length = er := by unfold itErr; rw [if_neg (fun h => her h.1)]
          have hz : Hid (R = ([], (a, b), er)) := by
            have h1 := HST.out; rw [hit, if_pos her] at h1; exact hRR.out.trans h1
          have g1 : (er == 0) = false := beq_eq_false_iff_ne.2 her
          have g3 : (er != 0) = true := by simp [her]
          clear hit her HST hRR
          go_wp2
          go_region
          go_wp2
          refine bodyPost_ret (v := .tuple #[.slice none 0 0, .agg #[.int .i64 a, .int .i64 b], .int .i64 er]) ?_ rfl ?_
          · simp [results, Tryz.results4, go_sem, x0, x1]
          · rw [hz.out]
            exact ⟨_, rfl, World.ownsRow_nil _ _ _ _, below_drew ((((HB1.out.trans (HB2.out.mono (by omega))).alloc (by omega) _).setCell (by simp) _).setCell (by simp) _)⟩


set_option maxHeartbeats 1000000 in
theorem rscan_long (s : ByteArray) (hm : 65536 < s.size) (hx : s.size ≤ maxLen) (w : World) :
    Calls Tryz.prog 4 #[.string s] w (ScanPost ([], (0, 0), 10) w) := by
  unfold maxLen at hx
  go_enter Tryz.func4, Tryz.ntmps4
  go_wp2
  refine bodyPost_ret (v := .tuple #[.slice none 0 0, .agg #[.int .i64 0, .int .i64 0], .int .i64 10]) ?_ rfl ⟨_, rfl, World.ownsRow_nil _ _ _ _, ?_⟩
  · simp [results, Tryz.results4, go_sem]
  · exact (Below.refl _ _).alloc (Nat.le_refl _) _

theorem rscan_any (s : ByteArray) (hx : s.size ≤ maxLen) (w : World) :
    Calls Tryz.prog 4 #[.string s] w (ScanPost (scan s.data.toList) w) := by
  by_cases hm : s.size ≤ 65536
  · exact rscan_short s hm w
  · have hlen : s.data.toList.length = s.size := by simp
    have : scan s.data.toList = ([], (0, 0), 10) := by unfold scan; rw [if_pos (by omega)]
    rw [this]
    exact rscan_long s (by omega) hx w

end Go.Proofs.YtkjjagmpnnnimaaGreatDoor

namespace Go.Proofs.YtkjjagmpnnnimaaGreatDoor
open Go.RowKit M

theorem S_app (a b : Bs) : S (a ++ b) = S a ++ S b := by
  apply WideShapes.bytes_inj
  simp

set_option maxRecDepth 100000 in
set_option maxHeartbeats 3200000 in
theorem lines_any (s : ByteArray) (hx : s.size ≤ maxLen) (w : World) (hr : RangeVar w) :
    Calls Tryz.prog 21 #[.string s] w (ScanPost (insL (scan s.data.toList).1) w) := by
  have HR := Lib.hid hr
  have HSC := Lib.hid (fun W => rscan_any s hx W)
  have HLN := Lib.hid (scan_length s.data.toList)
  have HST := Lib.hid (scan_str s.data.toList)
  generalize scan s.data.toList = R at *
  obtain ⟨ts, ⟨pa, pb⟩, er⟩ := R
  simp only at HLN HST
  have HI := Lib.hid (fun W A n c h1 h2 h3 => insert_all W A n c ts h1 h2 h3 (by have := HLN.out; omega) (fun t ht => by have := HST.out t ht; omega))
  generalize insL ts = Q at *
  obtain ⟨out, ⟨qa, qb⟩, e2⟩ := Q
  clear hr hx
  go_enter Tryz.func21, Tryz.ntmps21
  go_wp2_with fail
  refine (HSC.out _).mono ?_
  rintro e w1 ⟨v1, rfl, ho1, hb1⟩
  obtain ⟨A1, c1, rfl⟩ := owns_form ho1
  simp only at ho1
  have hz1 := hb1.size
  simp at hz1
  have HO1 := Lib.hid ho1
  have HB1 := Lib.hid hb1
  have hwf : ∀ i, w1.frozen? ⟨w.heap.size, i, none⟩ = false := fun i => (hb1.frozen (p := ⟨w.heap.size, i, none⟩) (by simp)).trans ((Blk.new w 25 #[.int .i64 0, .int .i64 0]).frozen i)
  have hwc : ∀ i, w1.cell? ⟨w.heap.size, i, none⟩ = #[Value.int .i64 0, Value.int .i64 0][i]? := fun i => (hb1.cell (p := ⟨w.heap.size, i, none⟩) (by simp)).trans ((Blk.new w 25 #[.int .i64 0, .int .i64 0]).cell i)
  have hb0 : Below w.heap.size w w1 := ((Below.refl _ _).alloc (Nat.le_refl _) _).trans (hb1.mono (by simp))
  have HB0 := Lib.hid hb0
  have hw0 : w1.cell? ⟨w.heap.size, 0, none⟩ = some (.int .i64 0) := hwc 0
  have hw1 : w1.cell? ⟨w.heap.size, 1, none⟩ = some (.int .i64 0) := hwc 1
  clear ho1 hb1 hwc hb0
  go_wp2_with fail
  refine (HI.out _ _ _ _ rfl (InToks.own (HO1.out.alloc _) rfl) ((HR.out.below HB0.out).alloc _)).mono ?_
  rintro e w2 ⟨v2, rfl, ho2, hb2⟩
  obtain ⟨A2, c2, rfl⟩ := owns_form ho2
  have hz2 := hb2.size
  simp at hz2
  have HO2 := Lib.hid ho2
  obtain ⟨hc2, hf2⟩ := bcell hb2
  have y0 : w2.cell? ⟨w.heap.size, 0, none⟩ = some (.int .i64 0) := by rw [hc2 _ _ (by simp; omega), World.cell?_alloc_lt _ _ _ (by simp; omega)]; exact hw0
  have y1 : w2.cell? ⟨w.heap.size, 1, none⟩ = some (.int .i64 0) := by rw [hc2 _ _ (by simp; omega), World.cell?_alloc_lt _ _ _ (by simp; omega)]; exact hw1
  have yf : ∀ i, w2.frozen? ⟨w.heap.size, i, none⟩ = false := fun i => by
    rw [hf2 _ _ (by simp; omega)]
    have := ((Below.refl w1.heap.size w1).alloc (Nat.le_refl _) (.cells #[.int .i64 pa, .int .i64 pb] 25)).frozen (p := ⟨w.heap.size, i, none⟩) (by simp; omega)
    exact this.trans (hwf i)
  have HB2 := Lib.hid hb2
  have hne : (Value.slice A2 out.length c2).ownBlock ≠ some w.heap.size := fun q => by have := (ho2.lt _ q).1; simp at this; omega
  have HNE := Lib.hid hne
  clear ho2 hb2 hc2 hf2 hne hw0 hw1 hwf
  go_wp2_with fail
  refine bodyPost_ret (v := .tuple #[.slice A2 out.length c2, posV qa qb, .int .i64 e2]) ?_ rfl ?_
  · simp [results, Tryz.results21, go_sem, y0, y1]
  · refine ⟨_, rfl, owns_base (owns_set (owns_set HO2.out HNE.out _) HNE.out _) (by simp; omega), (((HB0.out.alloc (by omega) _).trans (HB2.out.mono (by simp; omega))).setCell (by simp) _).setCell (by simp) _⟩

set_option maxRecDepth 100000 in
set_option maxHeartbeats 3200000 in
theorem kinds_any (w : World) (A : Option Addr) (n c : Nat) (ts : List Tok) (hn : n = ts.length) (hA : InToks w A ts) (hm : ts.length ≤ 1000000000) :
    Calls Tryz.prog 22 #[.slice A n c] w fun e w' => e = .returned (.string (S (kindsB ts))) ∧ w = w' := by
  have HA := Lib.hid hA
  have hR : Hid (kindsB ts = kindsB (ts.take ts.length)) := by unfold Hid; rw [List.take_length]
  subst hn
  generalize kindsB ts = R at *
  clear hA
  go_enter Tryz.func22, Tryz.ntmps22
  go_wp2_with fail
  go_loop [3, 4] (fun t3 t4 => ∃ k q, k ≤ ts.length ∧ t4 = .int .i64 (k : Nat) ∧ t3 = .string q ∧ q.size ≤ k ∧ Hid (q = S (kindsB (ts.take k)))) (fun _ t4 => ts.length - (intOf t4).toNat)
  case atStart => exact ⟨0, _, by omega, rfl, rfl, Nat.le_refl 0, rfl⟩
  case round =>
    obtain ⟨k, q, hk, rfl, rfl, hqs, hq⟩ := hrel
    by_cases hlt : k < ts.length
    · obtain ⟨⟨t, a, b⟩, ht⟩ : ∃ t, ts[k]? = some t := ⟨ts[k], List.getElem?_eq_getElem hlt⟩
      rcases HA.out with hnil | ⟨bb, off, rfl, hbb, hcell⟩
      · rw [hnil] at hlt; simp at hlt
      have x0 := hcell k _ ht 0 _ rfl
      simp only [Nat.add_zero] at x0
      have HNX := Lib.hid (kinds_next ts k _ ht)
      obtain ⟨kd, nu, st, er⟩ := t
      simp only at HNX x0
      have hkd : (kd = 5) ∨ (kd ≠ 5 ∧ kd = 6) ∨ (kd ≠ 5 ∧ kd ≠ 6 ∧ kd = 7) ∨ (kd ≠ 5 ∧ kd ≠ 6 ∧ kd ≠ 7) := by omega
      clear hcell ht
      rcases hkd with h1 | ⟨h1, h2⟩ | ⟨h1, h2, h3⟩ | ⟨h1, h2, h3⟩
      · have g1 : (kd == 5) = true := beq_iff_eq.2 h1
        have hz : Hid (q ++ ⟨#[79]⟩ = S (kindsB (ts.take (k + 1)))) := by
          unfold Hid; rw [HNX.out, hq.out]; unfold letterK; rw [if_pos h1]; exact (S_app _ [79]).symm
        clear h1
        go_wp2
        go_round
        case rel => exact ⟨k + 1, _, by omega, by go_num, rfl, by rw [ByteArray.size_append]; show q.size + 1 ≤ k + 1; omega, hz⟩
        case measure => simp [intOf]; omega
      · have g1 : (kd == 5) = false := beq_eq_false_iff_ne.2 h1
        have g2 : (kd == 6) = true := beq_iff_eq.2 h2
        have hz : Hid (q ++ ⟨#[83]⟩ = S (kindsB (ts.take (k + 1)))) := by
          unfold Hid; rw [HNX.out, hq.out]; unfold letterK; rw [if_neg h1, if_pos h2]; exact (S_app _ [83]).symm
        clear h1 h2
        go_wp2
        go_round
        case rel => exact ⟨k + 1, _, by omega, by go_num, rfl, by rw [ByteArray.size_append]; show q.size + 1 ≤ k + 1; omega, hz⟩
        case measure => simp [intOf]; omega
      · have g1 : (kd == 5) = false := beq_eq_false_iff_ne.2 h1
        have g2 : (kd == 6) = false := beq_eq_false_iff_ne.2 h2
        have g3 : (kd == 7) = true := beq_iff_eq.2 h3
        have hz : Hid (q ++ ⟨#[67]⟩ = S (kindsB (ts.take (k + 1)))) := by
          unfold Hid; rw [HNX.out, hq.out]; unfold letterK; rw [if_neg h1, if_neg h2, if_pos h3]; exact (S_app _ [67]).symm
        clear h1 h2 h3
        go_wp2
        go_round
        case rel => exact ⟨k + 1, _, by omega, by go_num, rfl, by rw [ByteArray.size_append]; show q.size + 1 ≤ k + 1; omega, hz⟩
        case measure => simp [intOf]; omega
      · have g1 : (kd == 5) = false := beq_eq_false_iff_ne.2 h1
        have g2 : (kd == 6) = false := beq_eq_false_iff_ne.2 h2
        have g3 : (kd == 7) = false := beq_eq_false_iff_ne.2 h3
        have hz : Hid (q ++ ⟨#[46]⟩ = S (kindsB (ts.take (k + 1)))) := by
          unfold Hid; rw [HNX.out, hq.out]; unfold letterK; rw [if_neg h1, if_neg h2, if_neg h3]; exact (S_app _ [46]).symm
        clear h1 h2 h3
        go_wp2
        go_round
        case rel => exact ⟨k + 1, _, by omega, by go_num, rfl, by rw [ByteArray.size_append]; show q.size + 1 ≤ k + 1; omega, hz⟩
        case measure => simp [intOf]; omega
    · have hkn : k = ts.length := by omega
      subst hkn
      go_wp2
      go_ret
      exact ⟨ret_string (by rw [hq.out, hR.out]), rfl⟩

end Go.Proofs.YtkjjagmpnnnimaaGreatDoor
