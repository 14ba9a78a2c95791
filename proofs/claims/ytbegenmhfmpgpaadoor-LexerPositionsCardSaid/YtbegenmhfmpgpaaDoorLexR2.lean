/- What the reference's Name and symbolAt return. -/
import Derived.Test.YtbegenmhfmpgpaaDoorLexR1
namespace Go.Proofs.YtbegenmhfmpgpaaDoor
open Go.RowKit M

/-- is the text a name -/
def nameB (l : Bs) : Bool := decide (0 < l.length) && (decide (l.length ≤ 64) && ((l.head?.map letterB == some true) && (decide (wlen l = l.length) && !kwB l)))

set_option maxHeartbeats 1000000 in
theorem rname_core (s : ByteArray) (hm : s.size ≤ 140737488355328) (hp : 0 < s.size) (a b c : Bool) (w : World) (h1 : decide (s.size ≤ 64) = a) (h2 : letterB s[0] = b) (h3 : decide (wlen s.data.toList = s.size) = c) :
    Calls Tryd.prog 27 #[.string s] w fun e w' => e = .returned (.bool (a && (b && (c && !kwB s.data.toList)))) ∧ Below w.heap.size w w' := by
  obtain ⟨e1, e2⟩ := notEmpty s hp
  have HE := fun W => rwordEnd_any s hm 0 (by omega) W
  rw [rest_zero, Nat.zero_add] at HE
  have HE := Lib.hid HE
  have HK := Lib.hid (fun b W hb => rin_any keywords 25 rfl (by decide) s b W hb)
  cases a
  · have g1 : decide ((s.size : Int) ≤ 64) = false := by simp at h1 ⊢; omega
    clear h1 h2 h3
    go_enter Tryd.func27, Tryd.ntmps27
    go_wp2
    go_ret
    exact ⟨rfl, Below.refl _ _⟩
  · have g1 : (s.size : Int) ≤ 64 := by simp at h1; omega
    clear h1
    cases b
    · clear h3
      go_enter Tryd.func27, Tryd.ntmps27
      go_wp2_with (go_at_call 54; refine (rletter_any _ _).mono ?_; rintro e w' ⟨rfl, rfl⟩)
      go_ret
      exact ⟨rfl, Below.refl _ _⟩
    · generalize wlen s.data.toList = N at *
      cases c
      · have g3 : ((N : Int) == (s.size : Int)) = false := by simp at h3; exact beq_eq_false_iff_ne.2 (by omega)
        clear h3
        go_enter Tryd.func27, Tryd.ntmps27
        go_wp2_with fail
        refine (rletter_any _ _).mono ?_
        rintro e w' ⟨rfl, rfl⟩
        go_wp2_with fail
        refine (HE.out _).mono ?_
        rintro e w' ⟨rfl, rfl⟩
        go_wp2
        go_ret
        exact ⟨rfl, Below.refl _ _⟩
      · have g3 : ((N : Int) == (s.size : Int)) = true := by simp at h3; exact beq_iff_eq.2 (by omega)
        clear h3
        go_enter Tryd.func27, Tryd.ntmps27
        go_wp2_with fail
        refine (rletter_any _ _).mono ?_
        rintro e w' ⟨rfl, rfl⟩
        go_wp2_with fail
        refine (HE.out _).mono ?_
        rintro e w' ⟨rfl, rfl⟩
        go_wp2_with fail
        refine (rkeywords_any _).mono ?_
        rintro e w' ⟨rfl, rfl⟩
        go_wp2_with fail
        refine (HK.out _ _ (heap_alloc_new w _)).mono ?_
        rintro e w' ⟨rfl, rfl⟩
        have HKB : Hid (keywords.contains s.data.toList = kwB s.data.toList) := rfl
        generalize keywords.contains s.data.toList = kb at *
        cases kb
        all_goals
          go_wp2
          go_ret
          exact ⟨ret_bool (by rw [← HKB.out]; rfl), (Below.refl _ _).alloc (Nat.le_refl _) _⟩

theorem rname_empty (w : World) : Calls Tryd.prog 27 #[.string ⟨#[]⟩] w fun e w' => e = .returned (.bool false) ∧ Below w.heap.size w w' := by
  go_enter Tryd.func27, Tryd.ntmps27
  go_wp2
  go_ret
  exact ⟨rfl, Below.refl _ _⟩

theorem rname_any (s : ByteArray) (hm : s.size ≤ 140737488355328) (w : World) :
    Calls Tryd.prog 27 #[.string s] w fun e w' => e = .returned (.bool (nameB s.data.toList)) ∧ Below w.heap.size w w' := by
  by_cases h0 : s.size = 0
  · obtain rfl := size_zero s h0
    exact rname_empty w
  have hp : 0 < s.size := by omega
  have hz : s.data.toList.length = s.size := by simp
  have := rname_core s hm hp _ _ _ w rfl rfl rfl
  unfold nameB
  rw [hz, head?_of s hp]
  have e : (Option.map letterB (some s[0]) == some true) = letterB s[0] := by cases h : letterB s[0] <;> simp [h]
  rw [e, decide_eq_true hp, Bool.true_and]
  exact this

end Go.Proofs.YtbegenmhfmpgpaaDoor
