/- What the reference's item returns at every cursor: the item that the model names. -/
import Derived.Test.YtbegenmhfmpgpaaDoorLexR8
import Derived.Test.YtbegenmhfmpgpaaDoorLexS
namespace Go.Proofs.YtbegenmhfmpgpaaDoor
open Go.RowKit M

theorem take_wlen (l : Bs) : l.take (wlen l) = l.takeWhile contB := by
  unfold wlen
  induction l with
  | nil => rfl
  | cons c r ih =>
    rw [List.takeWhile_cons]
    by_cases h : contB c = true
    · rw [if_pos h, List.length_cons, List.take_succ_cons, ih]
    · rw [if_neg h]; rfl
theorem wlen_take (l : Bs) : wlen (l.take (wlen l)) = wlen l := by
  rw [take_wlen]
  unfold wlen
  induction l with
  | nil => rfl
  | cons c r ih =>
    rw [List.takeWhile_cons]
    by_cases h : contB c = true
    · rw [if_pos h, List.takeWhile_cons, if_pos h, List.length_cons, List.length_cons, ih]
    · rw [if_neg h]; rfl
theorem digit_not_letter (c : UInt8) (h : digitB c = true) : letterB c = false := by
  unfold digitB at h
  unfold letterB
  simp at h ⊢
  omega
theorem word_cont (c : UInt8) (h : (letterB c || digitB c) = true) : contB c = true := by
  unfold contB; rw [h]; rfl

theorem ritem_any (w : World) (g : Nat) (s : ByteArray) (i : Nat) (p : Int × Int) (hc : RCur w g s i p) (hm : s.size ≤ 65536) (hi : i < s.size) :
    Calls Tryd.prog 41 #[.pointer (some ⟨g, 0, none⟩)] w (RItemPost w (ritemV (itemR (rest s i)) (itemN (rest s i)) p)) := by
  have hr := rest_cons s i hi
  have hlen := rest_length s i
  unfold itemR itemN
  cases h : (letterB s[i] || digitB s[i])
  · have h0 : wordN (rest s i) = 0 := by rw [hr]; unfold wordN; simp [h]
    simp only [h0, ne_eq, not_true_eq_false, if_false]
    simp only [Bool.or_eq_false_iff] at h
    by_cases hy : symB (rest s i) = []
    · rw [if_neg (fun k => k hy)]
      exact ritem_nosym w g s i p hc hm hi h.1 h.2 hy
    · rw [if_pos hy]
      exact ritem_sym w g s i p hc hm hi h.1 h.2 _ rfl hy (symB_le _)
  · have hN : wordN (rest s i) = wlen (rest s i) := by
      rw [hr]; unfold wordN; simp only [h, if_true]; rw [wlen_cons, word_cont _ h, if_pos rfl]
    have hN0 : 0 < wlen (rest s i) := by rw [hr, wlen_cons, word_cont _ h, if_pos rfl]; omega
    have hNl : i + wlen (rest s i) ≤ s.size := by have := wlen_le (rest s i); omega
    have HW : WEnd s i (wlen (rest s i)) := fun W => (rwordEnd_any s (by omega) i (by omega) W).mono fun _ _ ⟨a, b⟩ => ⟨a, b.symm⟩
    have hwt := wlen_take (rest s i)
    have hhd : ((rest s i).take (wlen (rest s i))).head? = some s[i] := by
      obtain ⟨n, hn⟩ : ∃ n, wlen (rest s i) = n + 1 := ⟨wlen (rest s i) - 1, by omega⟩
      rw [hn, hr]; rfl
    have htl : ((rest s i).take (wlen (rest s i))).length = wlen (rest s i) := by
      rw [List.length_take]; have := wlen_le (rest s i); omega
    rw [hN, if_pos (by omega), if_pos (by omega)]
    generalize wlen (rest s i) = N at *
    unfold wordR
    rw [hhd]
    cases hd : digitB s[i]
    · have hl : letterB s[i] = true := by rw [hd, Bool.or_false] at h; exact h
      rw [if_neg (by simp [hd])]
      cases hk : kwB ((rest s i).take N)
      · rw [if_neg (by decide)]
        by_cases h64 : ((rest s i).take N).length ≤ 64
        · rw [if_pos h64]
          have hn : nameB ((rest s i).take N) = true := by
            unfold nameB
            rw [hhd, hwt, hk, htl, decide_eq_true hN0, decide_eq_true (by rw [← htl]; exact h64)]
            simp [hl]
          exact ritem_name w g s i p hc hm hi N hN0 hNl HW hl hd hk hn
        · rw [if_neg h64]
          have hn : nameB ((rest s i).take N) = false := by
            unfold nameB
            rw [decide_eq_false h64]; simp
          exact ritem_long w g s i p hc hm hi N hN0 hNl HW hl hd hk hn
      · rw [if_pos rfl]
        exact ritem_kw w g s i p hc hm hi N hN0 hNl HW hl hd hk
    · rw [if_pos (by simp [hd])]
      have hl := digit_not_letter _ hd
      by_cases he : (intR ((rest s i).take N)).err = 0
      · have hx : ∃ n, intR ((rest s i).take N) = ⟨2, n, [], 0⟩ := by
          unfold intR at he ⊢
          split at he
          · exact absurd he (by decide)
          · rename_i h1
            rw [if_neg h1]
            split at he
            · exact absurd he (by decide)
            · rename_i h2
              rw [if_neg h2]
              split at he
              · rename_i h3; rw [if_pos h3]; exact ⟨_, rfl⟩
              · exact absurd he (by decide)
        obtain ⟨n, hx⟩ := hx
        rw [hx]
        exact ritem_digit_ok w g s i p hc hm hi N hN0 hNl HW hl hd n hx
      · have := ritem_digit_bad w g s i p hc hm hi N hN0 hNl HW hl hd _ rfl he
        unfold ritemV
        rw [if_neg he]
        exact this

end Go.Proofs.YtbegenmhfmpgpaaDoor
