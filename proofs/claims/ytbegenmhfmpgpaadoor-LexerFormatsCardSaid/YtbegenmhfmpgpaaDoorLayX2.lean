/- The statements' tokens: some and someTokens give tokens that lie in memory, at most 40. No conditions. -/
import Derived.Test.YtbegenmhfmpgpaaDoorLayX1
import Derived.Test.YtbegenmhfmpgpaaDoorLayO3
import Derived.Test.YtbegenmhfmpgpaaDoorTokB
import Derived.Test.YtbegenmhfmpgpaaDoorLexY0
import Derived.Deep.DeepCutAuto
namespace Go.Proofs.YtbegenmhfmpgpaaDoor
open Go.RowKit M

def nm5 : List Bs := [[97], [80, 49], [120, 39], [102, 95, 103], [73, 110, 116]]
def kw5 : List Bs := [[108, 101, 116], [119, 105, 116, 104, 105, 110], [97, 110, 100], [83, 84, 79, 80], [105, 102]]
theorem nm5_le (k : Nat) (h : k < 5) : (nm5.getD k []).length ≤ 9 := by
  have : ∀ k : Fin 5, (nm5.getD k.val []).length ≤ 9 := by decide
  exact this ⟨k, h⟩
theorem kw5_le (k : Nat) (h : k < 5) : (kw5.getD k []).length ≤ 9 := by
  have : ∀ k : Fin 5, (kw5.getD k.val []).length ≤ 9 := by decide
  exact this ⟨k, h⟩

theorem wide_mk (k n : Int) (s : Bs) (hk : -9223372036854775808 ≤ k ∧ k ≤ 9223372036854775807) (hn : -9223372036854775808 ≤ n ∧ n ≤ 9223372036854775807) (hs : s.length ≤ 140737488351232) : WideTok ((⟨k, n, s, 0⟩, (0, 0)) : Tok) :=
  ⟨hn.1, hn.2, hs, hk.1, hk.2, by show (-9223372036854775808 : Int) ≤ 0; decide, by show (0 : Int) ≤ 9223372036854775807; decide, by show (-9223372036854775808 : Int) ≤ 0; decide, by show (0 : Int) ≤ 9223372036854775807; decide⟩
theorem sym_le9 (k : Nat) (h : k < 59) : (symbolsL.getD k []).length ≤ 9 := by
  have : ∀ k : Fin 59, (symbolsL.getD k.val []).length ≤ 9 := by decide
  exact this ⟨k, h⟩
theorem bits_range (x y : Int) : -9223372036854775808 ≤ bits BinOp.and IntKind.i64 x y ∧ bits BinOp.and IntKind.i64 x y ≤ 9223372036854775807 :=
  wf_range (wf_bits _ _ _ _)
theorem div_range (X : Int) (k : Nat) (h0 : -9223372036854775808 ≤ X) (h1 : X ≤ 9223372036854775807) : -9223372036854775808 ≤ X / 2 ^ k ∧ X / 2 ^ k ≤ 9223372036854775807 := by
  have hc : (1 : Int) ≤ 2 ^ k := by
    have : 0 < (2 : Nat) ^ k := Nat.two_pow_pos k
    have h2 : ((2 ^ k : Nat) : Int) = 2 ^ k := by simp
    omega
  generalize (2 : Int) ^ k = c at *
  constructor
  · apply Int.le_ediv_of_mul_le (by omega)
    omega
  · apply Int.ediv_le_of_le_mul (by omega)
    omega

set_option maxRecDepth 100000 in
set_option maxHeartbeats 6400000 in
theorem some_any (t : TR) (a b : Int) (ht : WideTok (t, (a, b))) (w : World) :
    Calls Tryd.prog 25 #[tkV t a b] w fun e w' => ∃ u : Tok, e = .returned (tkV u.1 u.2.1 u.2.2) ∧ WideTok u ∧ Below w.heap.size w w' := by
  have HT := Lib.hid ht
  obtain ⟨k, num, st, er⟩ := t
  show Calls _ _ #[.agg #[.int .i64 k, .int .i64 num, .string (S st), .int .i64 a, .int .i64 b]] _ _
  clear ht
  have HM40 : Hid (∀ (v : Int) (W : World), Calls Tryd.prog 50 #[.int .i64 v, .int .i64 40] W fun e w' => e = .returned (.int .i64 (modK v 40)) ∧ w' = W) := fun v W => mod_any v 40 (by decide) (by decide) W
  have HM7 : Hid (∀ (v : Int) (W : World), Calls Tryd.prog 50 #[.int .i64 v, .int .i64 7] W fun e w' => e = .returned (.int .i64 (modK v 7)) ∧ w' = W) := fun v W => mod_any v 7 (by decide) (by decide) W
  have HM59 : Hid (∀ (v : Int) (W : World), Calls Tryd.prog 50 #[.int .i64 v, .int .i64 59] W fun e w' => e = .returned (.int .i64 (modK v 59)) ∧ w' = W) := fun v W => mod_any v 59 (by decide) (by decide) W
  have hk40 := modK_lt a 40 (by decide)
  have hk7 := modK_lt k 7 (by decide)
  have hk59 := modK_lt b 59 (by decide)
  go_enter Tryd.func25, Tryd.ntmps25
  go_wp2_with fail
  refine (HM40.out a _).mono ?_
  rintro e w1 ⟨rfl, rfl⟩
  generalize modK a 40 = ka at *
  go_wp2_with fail
  refine (HM7.out k _).mono ?_
  rintro e w1 ⟨rfl, rfl⟩
  generalize modK k 7 = r7 at *
  have HM59b := Lib.hid (HM59.out b)
  generalize modK b 59 = kb at *
  clear HM40 HM7 HM59
  obtain ⟨q, hq⟩ : ∃ q : Nat, ka % 5 = q := ⟨_, rfl⟩
  have hq2 : (ka : Int) % 5 = (q : Int) := by omega
  have hq5 : q < 5 := by omega
  have b0 : (0 : Int) ≤ (q : Int) := by omega
  have b5 : (q : Int) < 5 := by omega
  clear hq
  have h7 : r7 = 0 ∨ r7 = 1 ∨ r7 = 2 ∨ r7 = 3 ∨ r7 = 4 ∨ r7 = 5 ∨ r7 = 6 := by omega
  rcases h7 with rfl | rfl | rfl | rfl | rfl | rfl | rfl
  · have hq5' : q = 0 ∨ q = 1 ∨ q = 2 ∨ q = 3 ∨ q = 4 := by omega
    rcases hq5' with rfl | rfl | rfl | rfl | rfl
    · go_wp2_with fail
      refine bodyPost_ret (v := tkV ((⟨1, 0, [97], 0⟩, (0, 0)) : Tok).1 ((⟨1, 0, [97], 0⟩, (0, 0)) : Tok).2.1 ((⟨1, 0, [97], 0⟩, (0, 0)) : Tok).2.2) ?_ rfl ⟨((⟨1, 0, [97], 0⟩, (0, 0)) : Tok), rfl, ⟨by decide, by decide, by decide, by decide, by decide, by decide, by decide, by decide, by decide⟩, (((Below.refl _ _).alloc (Nat.le_refl _) _).alloc (by simp) _).alloc (by simp; omega) _⟩
      simp [results, Tryd.results25, go_sem]
    · go_wp2_with fail
      refine bodyPost_ret (v := tkV ((⟨1, 0, [80, 49], 0⟩, (0, 0)) : Tok).1 ((⟨1, 0, [80, 49], 0⟩, (0, 0)) : Tok).2.1 ((⟨1, 0, [80, 49], 0⟩, (0, 0)) : Tok).2.2) ?_ rfl ⟨((⟨1, 0, [80, 49], 0⟩, (0, 0)) : Tok), rfl, ⟨by decide, by decide, by decide, by decide, by decide, by decide, by decide, by decide, by decide⟩, (((Below.refl _ _).alloc (Nat.le_refl _) _).alloc (by simp) _).alloc (by simp; omega) _⟩
      simp [results, Tryd.results25, go_sem]
    · go_wp2_with fail
      refine bodyPost_ret (v := tkV ((⟨1, 0, [120, 39], 0⟩, (0, 0)) : Tok).1 ((⟨1, 0, [120, 39], 0⟩, (0, 0)) : Tok).2.1 ((⟨1, 0, [120, 39], 0⟩, (0, 0)) : Tok).2.2) ?_ rfl ⟨((⟨1, 0, [120, 39], 0⟩, (0, 0)) : Tok), rfl, ⟨by decide, by decide, by decide, by decide, by decide, by decide, by decide, by decide, by decide⟩, (((Below.refl _ _).alloc (Nat.le_refl _) _).alloc (by simp) _).alloc (by simp; omega) _⟩
      simp [results, Tryd.results25, go_sem]
    · go_wp2_with fail
      refine bodyPost_ret (v := tkV ((⟨1, 0, [102, 95, 103], 0⟩, (0, 0)) : Tok).1 ((⟨1, 0, [102, 95, 103], 0⟩, (0, 0)) : Tok).2.1 ((⟨1, 0, [102, 95, 103], 0⟩, (0, 0)) : Tok).2.2) ?_ rfl ⟨((⟨1, 0, [102, 95, 103], 0⟩, (0, 0)) : Tok), rfl, ⟨by decide, by decide, by decide, by decide, by decide, by decide, by decide, by decide, by decide⟩, (((Below.refl _ _).alloc (Nat.le_refl _) _).alloc (by simp) _).alloc (by simp; omega) _⟩
      simp [results, Tryd.results25, go_sem]
    · go_wp2_with fail
      refine bodyPost_ret (v := tkV ((⟨1, 0, [73, 110, 116], 0⟩, (0, 0)) : Tok).1 ((⟨1, 0, [73, 110, 116], 0⟩, (0, 0)) : Tok).2.1 ((⟨1, 0, [73, 110, 116], 0⟩, (0, 0)) : Tok).2.2) ?_ rfl ⟨((⟨1, 0, [73, 110, 116], 0⟩, (0, 0)) : Tok), rfl, ⟨by decide, by decide, by decide, by decide, by decide, by decide, by decide, by decide, by decide⟩, (((Below.refl _ _).alloc (Nat.le_refl _) _).alloc (by simp) _).alloc (by simp; omega) _⟩
      simp [results, Tryd.results25, go_sem]
  · have hq5' : q = 0 ∨ q = 1 ∨ q = 2 ∨ q = 3 ∨ q = 4 := by omega
    rcases hq5' with rfl | rfl | rfl | rfl | rfl
    · go_wp2_with fail
      refine bodyPost_ret (v := tkV ((⟨1, 0, [97], 0⟩, (0, 0)) : Tok).1 ((⟨1, 0, [97], 0⟩, (0, 0)) : Tok).2.1 ((⟨1, 0, [97], 0⟩, (0, 0)) : Tok).2.2) ?_ rfl ⟨((⟨1, 0, [97], 0⟩, (0, 0)) : Tok), rfl, ⟨by decide, by decide, by decide, by decide, by decide, by decide, by decide, by decide, by decide⟩, (((Below.refl _ _).alloc (Nat.le_refl _) _).alloc (by simp) _).alloc (by simp; omega) _⟩
      simp [results, Tryd.results25, go_sem]
    · go_wp2_with fail
      refine bodyPost_ret (v := tkV ((⟨1, 0, [80, 49], 0⟩, (0, 0)) : Tok).1 ((⟨1, 0, [80, 49], 0⟩, (0, 0)) : Tok).2.1 ((⟨1, 0, [80, 49], 0⟩, (0, 0)) : Tok).2.2) ?_ rfl ⟨((⟨1, 0, [80, 49], 0⟩, (0, 0)) : Tok), rfl, ⟨by decide, by decide, by decide, by decide, by decide, by decide, by decide, by decide, by decide⟩, (((Below.refl _ _).alloc (Nat.le_refl _) _).alloc (by simp) _).alloc (by simp; omega) _⟩
      simp [results, Tryd.results25, go_sem]
    · go_wp2_with fail
      refine bodyPost_ret (v := tkV ((⟨1, 0, [120, 39], 0⟩, (0, 0)) : Tok).1 ((⟨1, 0, [120, 39], 0⟩, (0, 0)) : Tok).2.1 ((⟨1, 0, [120, 39], 0⟩, (0, 0)) : Tok).2.2) ?_ rfl ⟨((⟨1, 0, [120, 39], 0⟩, (0, 0)) : Tok), rfl, ⟨by decide, by decide, by decide, by decide, by decide, by decide, by decide, by decide, by decide⟩, (((Below.refl _ _).alloc (Nat.le_refl _) _).alloc (by simp) _).alloc (by simp; omega) _⟩
      simp [results, Tryd.results25, go_sem]
    · go_wp2_with fail
      refine bodyPost_ret (v := tkV ((⟨1, 0, [102, 95, 103], 0⟩, (0, 0)) : Tok).1 ((⟨1, 0, [102, 95, 103], 0⟩, (0, 0)) : Tok).2.1 ((⟨1, 0, [102, 95, 103], 0⟩, (0, 0)) : Tok).2.2) ?_ rfl ⟨((⟨1, 0, [102, 95, 103], 0⟩, (0, 0)) : Tok), rfl, ⟨by decide, by decide, by decide, by decide, by decide, by decide, by decide, by decide, by decide⟩, (((Below.refl _ _).alloc (Nat.le_refl _) _).alloc (by simp) _).alloc (by simp; omega) _⟩
      simp [results, Tryd.results25, go_sem]
    · go_wp2_with fail
      refine bodyPost_ret (v := tkV ((⟨1, 0, [73, 110, 116], 0⟩, (0, 0)) : Tok).1 ((⟨1, 0, [73, 110, 116], 0⟩, (0, 0)) : Tok).2.1 ((⟨1, 0, [73, 110, 116], 0⟩, (0, 0)) : Tok).2.2) ?_ rfl ⟨((⟨1, 0, [73, 110, 116], 0⟩, (0, 0)) : Tok), rfl, ⟨by decide, by decide, by decide, by decide, by decide, by decide, by decide, by decide, by decide⟩, (((Below.refl _ _).alloc (Nat.le_refl _) _).alloc (by simp) _).alloc (by simp; omega) _⟩
      simp [results, Tryd.results25, go_sem]
  · have hX := bits_range num 4611686018427387903
    generalize hbx : bits BinOp.and IntKind.i64 num 4611686018427387903 = X at *
    have hY := div_range X ka hX.1 hX.2
    go_wp2_with fail
    refine bodyPost_ret (v := tkV ((⟨2, X / 2 ^ ka, [], 0⟩, (0, 0)) : Tok).1 ((⟨2, X / 2 ^ ka, [], 0⟩, (0, 0)) : Tok).2.1 ((⟨2, X / 2 ^ ka, [], 0⟩, (0, 0)) : Tok).2.2) ?_ rfl ⟨((⟨2, X / 2 ^ ka, [], 0⟩, (0, 0)) : Tok), rfl, wide_mk 2 _ [] (by decide) hY (by decide), ((Below.refl _ _).alloc (Nat.le_refl _) _).alloc (by simp) _⟩
    simp [results, Tryd.results25, go_sem]
  · have hq5' : q = 0 ∨ q = 1 ∨ q = 2 ∨ q = 3 ∨ q = 4 := by omega
    rcases hq5' with rfl | rfl | rfl | rfl | rfl
    · go_wp2_with fail
      refine bodyPost_ret (v := tkV ((⟨3, 0, [108, 101, 116], 0⟩, (0, 0)) : Tok).1 ((⟨3, 0, [108, 101, 116], 0⟩, (0, 0)) : Tok).2.1 ((⟨3, 0, [108, 101, 116], 0⟩, (0, 0)) : Tok).2.2) ?_ rfl ⟨((⟨3, 0, [108, 101, 116], 0⟩, (0, 0)) : Tok), rfl, ⟨by decide, by decide, by decide, by decide, by decide, by decide, by decide, by decide, by decide⟩, (((Below.refl _ _).alloc (Nat.le_refl _) _).alloc (by simp) _).alloc (by simp; omega) _⟩
      simp [results, Tryd.results25, go_sem]
    · go_wp2_with fail
      refine bodyPost_ret (v := tkV ((⟨3, 0, [119, 105, 116, 104, 105, 110], 0⟩, (0, 0)) : Tok).1 ((⟨3, 0, [119, 105, 116, 104, 105, 110], 0⟩, (0, 0)) : Tok).2.1 ((⟨3, 0, [119, 105, 116, 104, 105, 110], 0⟩, (0, 0)) : Tok).2.2) ?_ rfl ⟨((⟨3, 0, [119, 105, 116, 104, 105, 110], 0⟩, (0, 0)) : Tok), rfl, ⟨by decide, by decide, by decide, by decide, by decide, by decide, by decide, by decide, by decide⟩, (((Below.refl _ _).alloc (Nat.le_refl _) _).alloc (by simp) _).alloc (by simp; omega) _⟩
      simp [results, Tryd.results25, go_sem]
    · go_wp2_with fail
      refine bodyPost_ret (v := tkV ((⟨3, 0, [97, 110, 100], 0⟩, (0, 0)) : Tok).1 ((⟨3, 0, [97, 110, 100], 0⟩, (0, 0)) : Tok).2.1 ((⟨3, 0, [97, 110, 100], 0⟩, (0, 0)) : Tok).2.2) ?_ rfl ⟨((⟨3, 0, [97, 110, 100], 0⟩, (0, 0)) : Tok), rfl, ⟨by decide, by decide, by decide, by decide, by decide, by decide, by decide, by decide, by decide⟩, (((Below.refl _ _).alloc (Nat.le_refl _) _).alloc (by simp) _).alloc (by simp; omega) _⟩
      simp [results, Tryd.results25, go_sem]
    · go_wp2_with fail
      refine bodyPost_ret (v := tkV ((⟨3, 0, [83, 84, 79, 80], 0⟩, (0, 0)) : Tok).1 ((⟨3, 0, [83, 84, 79, 80], 0⟩, (0, 0)) : Tok).2.1 ((⟨3, 0, [83, 84, 79, 80], 0⟩, (0, 0)) : Tok).2.2) ?_ rfl ⟨((⟨3, 0, [83, 84, 79, 80], 0⟩, (0, 0)) : Tok), rfl, ⟨by decide, by decide, by decide, by decide, by decide, by decide, by decide, by decide, by decide⟩, (((Below.refl _ _).alloc (Nat.le_refl _) _).alloc (by simp) _).alloc (by simp; omega) _⟩
      simp [results, Tryd.results25, go_sem]
    · go_wp2_with fail
      refine bodyPost_ret (v := tkV ((⟨3, 0, [105, 102], 0⟩, (0, 0)) : Tok).1 ((⟨3, 0, [105, 102], 0⟩, (0, 0)) : Tok).2.1 ((⟨3, 0, [105, 102], 0⟩, (0, 0)) : Tok).2.2) ?_ rfl ⟨((⟨3, 0, [105, 102], 0⟩, (0, 0)) : Tok), rfl, ⟨by decide, by decide, by decide, by decide, by decide, by decide, by decide, by decide, by decide⟩, (((Below.refl _ _).alloc (Nat.le_refl _) _).alloc (by simp) _).alloc (by simp; omega) _⟩
      simp [results, Tryd.results25, go_sem]
  · have hst : (((w.alloc (.cells #[.int .i64 k, .int .i64 num, .string (S st), .int .i64 a, .int .i64 b] 25)).alloc (.cells #[.int .i64 0, .int .i64 0, .string ⟨#[]⟩, .int .i64 0, .int .i64 0] 25)).alloc (strBlock symbolsL)).cell? ⟨w.heap.size + 1 + 1, kb, none⟩ = some (.string (S (symbolsL.getD kb []))) := by
      have := str_cell (heap_alloc_new ((w.alloc (.cells #[.int .i64 k, .int .i64 num, .string (S st), .int .i64 a, .int .i64 b] 25)).alloc (.cells #[.int .i64 0, .int .i64 0, .string ⟨#[]⟩, .int .i64 0, .int .i64 0] 25)) (strBlock symbolsL)) kb hk59
      rwa [show ((w.alloc (.cells #[.int .i64 k, .int .i64 num, .string (S st), .int .i64 a, .int .i64 b] 25)).alloc (.cells #[.int .i64 0, .int .i64 0, .string ⟨#[]⟩, .int .i64 0, .int .i64 0] 25)).heap.size = w.heap.size + 1 + 1 by simp] at this
    have hle := sym_le9 kb hk59
    generalize symbolsL.getD kb [] = sy at *
    have b59 : (kb : Int) < 59 := by omega
    have b1 : (0 : Int) ≤ (kb : Int) := by omega
    go_wp2_with fail
    refine (symbols_ref _).mono ?_
    rintro e w2 ⟨rfl, rfl⟩
    go_wp2_with fail
    refine (HM59b.out _).mono ?_
    rintro e w3 ⟨rfl, rfl⟩
    go_wp2_with fail
    refine bodyPost_ret (v := tkV ((⟨4, 0, sy, 0⟩, (0, 0)) : Tok).1 ((⟨4, 0, sy, 0⟩, (0, 0)) : Tok).2.1 ((⟨4, 0, sy, 0⟩, (0, 0)) : Tok).2.2) ?_ rfl ⟨((⟨4, 0, sy, 0⟩, (0, 0)) : Tok), rfl, wide_mk 4 0 sy (by decide) (by decide) (by omega), (((Below.refl _ _).alloc (Nat.le_refl _) _).alloc (by simp) _).alloc (by simp; omega) _⟩
    simp [results, Tryd.results25, go_sem]
  · have hst : (((w.alloc (.cells #[.int .i64 k, .int .i64 num, .string (S st), .int .i64 a, .int .i64 b] 25)).alloc (.cells #[.int .i64 0, .int .i64 0, .string ⟨#[]⟩, .int .i64 0, .int .i64 0] 25)).alloc (strBlock symbolsL)).cell? ⟨w.heap.size + 1 + 1, kb, none⟩ = some (.string (S (symbolsL.getD kb []))) := by
      have := str_cell (heap_alloc_new ((w.alloc (.cells #[.int .i64 k, .int .i64 num, .string (S st), .int .i64 a, .int .i64 b] 25)).alloc (.cells #[.int .i64 0, .int .i64 0, .string ⟨#[]⟩, .int .i64 0, .int .i64 0] 25)) (strBlock symbolsL)) kb hk59
      rwa [show ((w.alloc (.cells #[.int .i64 k, .int .i64 num, .string (S st), .int .i64 a, .int .i64 b] 25)).alloc (.cells #[.int .i64 0, .int .i64 0, .string ⟨#[]⟩, .int .i64 0, .int .i64 0] 25)).heap.size = w.heap.size + 1 + 1 by simp] at this
    have hle := sym_le9 kb hk59
    generalize symbolsL.getD kb [] = sy at *
    have b59 : (kb : Int) < 59 := by omega
    have b1 : (0 : Int) ≤ (kb : Int) := by omega
    go_wp2_with fail
    refine (symbols_ref _).mono ?_
    rintro e w2 ⟨rfl, rfl⟩
    go_wp2_with fail
    refine (HM59b.out _).mono ?_
    rintro e w3 ⟨rfl, rfl⟩
    go_wp2_with fail
    refine bodyPost_ret (v := tkV ((⟨4, 0, sy, 0⟩, (0, 0)) : Tok).1 ((⟨4, 0, sy, 0⟩, (0, 0)) : Tok).2.1 ((⟨4, 0, sy, 0⟩, (0, 0)) : Tok).2.2) ?_ rfl ⟨((⟨4, 0, sy, 0⟩, (0, 0)) : Tok), rfl, wide_mk 4 0 sy (by decide) (by decide) (by omega), (((Below.refl _ _).alloc (Nat.le_refl _) _).alloc (by simp) _).alloc (by simp; omega) _⟩
    simp [results, Tryd.results25, go_sem]
  · go_wp2_with fail
    refine bodyPost_ret (v := tkV ((⟨k, num, st, er⟩, (a, b)) : Tok).1 ((⟨k, num, st, er⟩, (a, b)) : Tok).2.1 ((⟨k, num, st, er⟩, (a, b)) : Tok).2.2) ?_ rfl ⟨((⟨k, num, st, er⟩, (a, b)) : Tok), rfl, HT.out, ((Below.refl _ _).alloc (Nat.le_refl _) _).alloc (by simp) _⟩
    simp [results, Tryd.results25, go_sem]

end Go.Proofs.YtbegenmhfmpgpaaDoor
