/- LayoutSeparates: lines that begin in column 1 are the declarations of one block. Condition: strconv.ErrRange holds an interface value. -/
import Derived.Test.YtebfnlahiodefaaDoorLayL3
import Derived.Test.YtebfnlahiodefaaDoorLayE
import Derived.Test.YtebfnlahiodefaaDoorLexX0
namespace Go.Proofs.YtebfnlahiodefaaDoor
open Go.RowKit M

theorem spaces_at (r : Nat) (h : r < 6) : ((⟨#[32, 32, 32, 32, 32, 32, 32]⟩ : ByteArray).extract 0 (1 + r)).data.toList = List.replicate (1 + r) 32 := by
  have : ∀ r : Fin 6, ((⟨#[32, 32, 32, 32, 32, 32, 32]⟩ : ByteArray).extract 0 (1 + r.val)).data.toList = List.replicate (1 + r.val) 32 := by decide
  exact this ⟨r, h⟩
theorem sepSrc_snoc (ds : List Nat) (d : Nat) : sepSrc (ds ++ [d]) = sepSrc ds ++ segB d := by simp [sepSrc]
theorem sepWant_snoc (ds : List Nat) (d : Nat) : sepWant (ds ++ [d]) = sepWant ds ++ if d = 0 then [83, 46] else [46] := by simp [sepWant]
def SepPost (ds : List Nat) (w : World) (e : Ending) (w' : World) : Prop :=
  ∃ (v : Value) (out : List Tok) (p : Int × Int), e = .returned (.tuple #[v, .agg #[.int .i64 p.1, .int .i64 p.2], .int .i64 0]) ∧ w'.ownsRow w.heap.size 25 5 v out.length (toksCells out) ∧
      kindsB out = sepWant ds ++ [67] ∧ out.length ≤ 100000 ∧ Below w.heap.size w w'
theorem separates_end (ds : List Nat) (hd : ds.length ≤ 30) (h6 : ∀ d ∈ ds, d ≤ 6) (s : ByteArray) (hs : s.data.toList = sepSrc ds) (hz : s.size ≤ 1000) (w : World) (hr : RangeVar w) :
    Calls Tryd.prog 37 #[.string s] w (SepPost ds w) := by
  obtain ⟨h1, h2⟩ := sep_ok ds hd h6
  have hl := insL_len (scan s.data.toList).1
  have hl2 := scan_length s.data.toList
  refine (lines_any s (by unfold maxLen; omega) w hr).mono ?_
  rintro e w' ⟨v, he, ho, hb⟩
  rw [hs] at he ho hl hl2
  rw [h1] at he
  exact ⟨v, (insL (scan (sepSrc ds)).1).1, (insL (scan (sepSrc ds)).1).2.1, he, ho, h2, by omega, hb⟩

set_option maxRecDepth 100000 in
set_option maxHeartbeats 6400000 in
theorem layoutSeparates_any (w : World) (A : Option Addr) (n c : Nat) (hA : InBytes w A n) (hn : n ≤ maxLen) (hr : RangeVar w) :
    Calls Tryd.prog 10 #[.slice A n c] w fun e w' => e = .returned (.bool true) ∧ Below w.heap.size w w' := by
  unfold maxLen at hn
  have HA := Lib.hid hA
  have HR := Lib.hid hr
  clear hA hr
  go_enter Tryd.func10, Tryd.ntmps10
  go_wp2_with fail
  go_loop [3, 4, 5] (fun t3 t4 t5 => ∃ (k : Nat) (s u : ByteArray), k ≤ n ∧ k ≤ 30 ∧ t5 = .int .i64 k ∧ t3 = .string s ∧ t4 = .string u ∧ s.size ≤ 10 + 8 * k ∧ u.size ≤ 10 + 2 * k ∧
      Hid (∃ ds : List Nat, ds.length = k ∧ (∀ d ∈ ds, d ≤ 6) ∧ s.data.toList = sepSrc ds ∧ u.data.toList = sepWant ds)) (fun _ _ t5 => n - (intOf t5).toNat)
  case atStart => exact ⟨0, ⟨#[120]⟩, ⟨#[79, 46]⟩, by omega, by omega, rfl, rfl, rfl, by decide, by decide, [], rfl, by simp, rfl, rfl⟩
  case round =>
    obtain ⟨k, s, u, hk, hk30, rfl, rfl, rfl, hss, hus, hds⟩ := hrel
    by_cases hlt : k < n ∧ k < 30
    · obtain ⟨hlt, h30⟩ := hlt
      rcases HA.out with h0 | ⟨b, off, rfl, hb, hcs⟩
      · omega
      obtain ⟨z, hz0, hz1, hc⟩ := hcs k hlt
      clear hcs
      by_cases h3 : z % 3 = 0
      · have g1 : (z % 3 == 0) = true := beq_iff_eq.2 h3
        have hd2 : Hid (∃ ds : List Nat, ds.length = k + 1 ∧ (∀ d ∈ ds, d ≤ 6) ∧ (s ++ ⟨#[10, 120]⟩).data.toList = sepSrc ds ∧ (u ++ ⟨#[83, 46]⟩).data.toList = sepWant ds) := by
          obtain ⟨ds, e1, e2, e3, e4⟩ := hds.out
          refine ⟨ds ++ [0], by simp [e1], ?_, ?_, ?_⟩
          · intro d hd
            rcases List.mem_append.1 hd with hd | hd
            · exact e2 d hd
            · rw [List.mem_singleton] at hd; omega
          · rw [sepSrc_snoc]; exact app_list _ _ _ _ e3 rfl
          · rw [sepWant_snoc]; exact app_list _ _ _ _ e4 rfl
        have HZ1 : Hid ((s ++ ⟨#[10, 120]⟩).size ≤ 10 + 8 * (k + 1)) := by unfold Hid; rw [ByteArray.size_append]; show s.size + 2 ≤ _; omega
        have HZ2 : Hid ((u ++ ⟨#[83, 46]⟩).size ≤ 10 + 2 * (k + 1)) := by unfold Hid; rw [ByteArray.size_append]; show u.size + 2 ≤ _; omega
        clear h3
        go_wp2
        go_round
        case rel => exact ⟨k + 1, _, _, by omega, by omega, by go_num, rfl, rfl, HZ1.out, HZ2.out, hd2⟩
        case measure => simp [intOf]; omega
      · have g1 : (z % 3 == 0) = false := beq_eq_false_iff_ne.2 h3
        obtain ⟨r, hr6⟩ : ∃ r : Nat, z % 6 = (r : Int) := ⟨(z % 6).toNat, by omega⟩
        have hr : r < 6 := by omega
        have hsp := spaces_at r hr
        have hext : Hid (((⟨#[32, 32, 32, 32, 32, 32, 32]⟩ : ByteArray).extract 0 (1 + r)).size ≤ 7) := by
          unfold Hid
          have hgen : ∀ q : ByteArray, q.size = q.data.toList.length := fun q => by simp
          rw [hgen, hsp]; simp; omega
        have HSP := Lib.hid hsp
        clear h3 hsp
        have hd2 : Hid (∃ ds : List Nat, ds.length = k + 1 ∧ (∀ d ∈ ds, d ≤ 6) ∧ (s ++ ((⟨#[10]⟩ ++ (⟨#[32, 32, 32, 32, 32, 32, 32]⟩ : ByteArray).extract 0 (1 + r)) ++ ⟨#[120]⟩)).data.toList = sepSrc ds ∧ (u ++ ⟨#[46]⟩).data.toList = sepWant ds) := by
          obtain ⟨ds, e1, e2, e3, e4⟩ := hds.out
          refine ⟨ds ++ [1 + r], by simp [e1], ?_, ?_, ?_⟩
          · intro d hd
            rcases List.mem_append.1 hd with hd | hd
            · exact e2 d hd
            · rw [List.mem_singleton] at hd; omega
          · rw [sepSrc_snoc]; exact app_list _ _ _ _ e3 (app_list _ (10 :: List.replicate (1 + r) 32) [120] _ (app_list _ [10] _ _ rfl HSP.out) rfl)
          · rw [sepWant_snoc, if_neg (by omega)]; exact app_list _ _ _ _ e4 rfl
        have HZ1 : Hid ((s ++ ((⟨#[10]⟩ ++ (⟨#[32, 32, 32, 32, 32, 32, 32]⟩ : ByteArray).extract 0 (1 + r)) ++ ⟨#[120]⟩)).size ≤ 10 + 8 * (k + 1)) := by
          unfold Hid
          rw [ByteArray.size_append, ByteArray.size_append, ByteArray.size_append]
          have h1 : (⟨#[10]⟩ : ByteArray).size = 1 := rfl
          have h2 : (⟨#[120]⟩ : ByteArray).size = 1 := rfl
          have hgen : ∀ q : ByteArray, q.size = q.data.toList.length := fun q => by simp
          rw [h1, h2, hgen ((⟨#[32, 32, 32, 32, 32, 32, 32]⟩ : ByteArray).extract 0 (1 + r)), HSP.out]
          simp; omega
        have HZ2 : Hid ((u ++ ⟨#[46]⟩).size ≤ 10 + 2 * (k + 1)) := by unfold Hid; rw [ByteArray.size_append]; show u.size + 1 ≤ _; omega
        go_wp2_with fail
        go_round
        case rel => exact ⟨k + 1, _, _, by omega, by omega, by go_num, rfl, rfl, HZ1.out, HZ2.out, hd2⟩
        case measure => simp [intOf]; omega
    · obtain ⟨ds, e1, e2, e3, e4⟩ := hds.out
      have HEND := Lib.hid (fun W hr => separates_end ds (by omega) e2 s e3 (by omega) W hr)
      have hwant : Hid (u ++ ⟨#[67]⟩ = S (sepWant ds ++ [67])) := of_list (app_list _ _ _ _ e4 rfl)
      have key : k = n ∨ (k < n ∧ k = 30) := by omega
      clear hds e1 e2 e3 e4 hlt
      rcases key with hkn | ⟨hkn, hk3⟩
      · subst hkn
        go_wp2_with fail
        refine (HEND.out _ HR.out).mono ?_
        rintro e w1 ⟨v1, out, ⟨pa, pb⟩, rfl, ho1, hk1, hl1, hb1⟩
        obtain ⟨A1, c1, rfl⟩ := owns_form ho1
        have HO1 := Lib.hid ho1
        have HB1 := Lib.hid hb1
        have HK1 := Lib.hid hk1
        have hz1 := hb1.size
        have HR1 := Lib.hid (HR.out.below hb1)
        clear ho1 hb1 hk1
        go_wp2_with fail
        refine (awake2_any _ (HR1.out.alloc _)).mono ?_
        rintro e w2 ⟨rfl, hb2⟩
        have HB2 := Lib.hid hb2
        have hz2 := hb2.size
        simp at hz2
        have HI2 := Lib.hid ((InToks.own (HO1.out.alloc (.cells #[.int .i64 pa, .int .i64 pb] 23)) rfl).below hb2)
        clear hb2
        go_wp2_with fail
        refine (kinds_any _ _ _ _ _ rfl HI2.out (by omega)).mono ?_
        rw [HK1.out]
        rintro e w3 ⟨rfl, rfl⟩
        have hE := hwant.out
        generalize S (sepWant ds ++ [67]) = q at *
        have g1 : (q.toList == (u ++ ⟨#[67]⟩).toList) = true := by rw [hE]; simp
        clear hE hwant
        go_wp2
        go_ret
        exact ⟨rfl, (HB1.out.alloc hz1 _).trans (HB2.out.mono (by simp; omega))⟩
      · subst hk3
        go_wp2_with fail
        refine (HEND.out _ HR.out).mono ?_
        rintro e w1 ⟨v1, out, ⟨pa, pb⟩, rfl, ho1, hk1, hl1, hb1⟩
        obtain ⟨A1, c1, rfl⟩ := owns_form ho1
        have HO1 := Lib.hid ho1
        have HB1 := Lib.hid hb1
        have HK1 := Lib.hid hk1
        have hz1 := hb1.size
        have HR1 := Lib.hid (HR.out.below hb1)
        clear ho1 hb1 hk1
        go_wp2_with fail
        refine (awake2_any _ (HR1.out.alloc _)).mono ?_
        rintro e w2 ⟨rfl, hb2⟩
        have HB2 := Lib.hid hb2
        have hz2 := hb2.size
        simp at hz2
        have HI2 := Lib.hid ((InToks.own (HO1.out.alloc (.cells #[.int .i64 pa, .int .i64 pb] 23)) rfl).below hb2)
        clear hb2
        go_wp2_with fail
        refine (kinds_any _ _ _ _ _ rfl HI2.out (by omega)).mono ?_
        rw [HK1.out]
        rintro e w3 ⟨rfl, rfl⟩
        have hE := hwant.out
        generalize S (sepWant ds ++ [67]) = q at *
        have g1 : (q.toList == (u ++ ⟨#[67]⟩).toList) = true := by rw [hE]; simp
        clear hE hwant
        go_wp2
        go_ret
        exact ⟨rfl, (HB1.out.alloc hz1 _).trans (HB2.out.mono (by simp; omega))⟩

end Go.Proofs.YtebfnlahiodefaaDoor
