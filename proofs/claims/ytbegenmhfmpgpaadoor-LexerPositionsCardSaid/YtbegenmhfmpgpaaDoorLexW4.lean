/- What the lexer's isKeyword, integerToken, wordToken return. -/
import Derived.Test.YtbegenmhfmpgpaaDoorLexW3
import Derived.Test.YtbegenmhfmpgpaaDoorLexI
import Derived.Test.YtbegenmhfmpgpaaDoorShelf
namespace Go.Proofs.YtbegenmhfmpgpaaDoor
open Go.RowKit M

theorem toList_ne (s : ByteArray) (k : Bs) (h : s.data.toList ≠ k) : (s.toList == k) = false := by
  rw [ByteArray.toList_eq]; exact beq_eq_false_iff_ne.2 h
theorem toList_is (s : ByteArray) (k : Bs) (h : s.data.toList = k) : (s.toList == k) = true := by
  rw [ByteArray.toList_eq]; exact beq_iff_eq.2 h

set_option maxHeartbeats 1000000 in
theorem keyword_no (s : ByteArray) (w : World) (h : kwB s.data.toList = false) :
    Calls Tryd.prog 77 #[.string s] w fun e w' => e = .returned (.bool false) ∧ w = w' := by
  have hne : ∀ k, k ∈ keywords → (s.toList == k) = false := fun k hk => toList_ne s k (fun e => by
    unfold kwB at h; rw [e] at h; simp [hk] at h)
  have g0 := hne [97, 110, 100] (by decide)
  have g1 := hne [111, 114] (by decide)
  have g2 := hne [110, 111, 116] (by decide)
  have g3 := hne [105, 102] (by decide)
  have g4 := hne [116, 104, 101, 110] (by decide)
  have g5 := hne [101, 108, 115, 101] (by decide)
  have g6 := hne [108, 101, 116] (by decide)
  have g7 := hne [119, 105, 116, 104, 105, 110] (by decide)
  have g8 := hne [116, 114, 117, 101] (by decide)
  have g9 := hne [102, 97, 108, 115, 101] (by decide)
  have g10 := hne [100, 97, 116, 97, 116, 121, 112, 101] (by decide)
  have g11 := hne [110, 97, 109, 101, 116, 121, 112, 101] (by decide)
  have g12 := hne [99, 104, 97, 110, 110, 101, 108] (by decide)
  have g13 := hne [109, 111, 100, 117, 108, 101] (by decide)
  have g14 := hne [101, 120, 112, 111, 114, 116, 115] (by decide)
  have g15 := hne [101, 110, 100, 109, 111, 100, 117, 108, 101] (by decide)
  have g16 := hne [105, 110, 115, 116, 97, 110, 99, 101] (by decide)
  have g17 := hne [84, 105, 109, 101, 100] (by decide)
  have g18 := hne [101, 110, 100, 116, 105, 109, 101, 100] (by decide)
  have g19 := hne [97, 115, 115, 101, 114, 116] (by decide)
  have g20 := hne [83, 84, 79, 80] (by decide)
  have g21 := hne [83, 75, 73, 80] (by decide)
  have g22 := hne [68, 73, 86] (by decide)
  have g23 := hne [99, 104, 97, 115, 101] (by decide)
  have g24 := hne [112, 114, 105, 111, 114, 105, 116, 105, 115, 101] (by decide)
  clear hne h
  go_enter Tryd.func77, Tryd.ntmps77
  go_wp2
  go_ret
  exact ⟨rfl, rfl⟩

set_option maxHeartbeats 2000000 in
theorem keyword_yes (s : ByteArray) (w : World) (h : kwB s.data.toList = true) :
    Calls Tryd.prog 77 #[.string s] w fun e w' => e = .returned (.bool true) ∧ w = w' := by
  have hm : s.data.toList ∈ keywords := by unfold kwB at h; simpa using h
  have hs := S_of s
  generalize s.data.toList = l at hm hs
  subst hs
  clear h
  simp only [keywords, List.mem_cons, List.not_mem_nil, or_false] at hm
  rcases hm with rfl | rfl | rfl | rfl | rfl | rfl | rfl | rfl | rfl | rfl | rfl | rfl | rfl | rfl | rfl | rfl | rfl | rfl | rfl | rfl | rfl | rfl | rfl | rfl | rfl
  all_goals
    go_enter Tryd.func77, Tryd.ntmps77
    go_wp2
    go_ret
    exact ⟨rfl, rfl⟩

end Go.Proofs.YtbegenmhfmpgpaaDoor
