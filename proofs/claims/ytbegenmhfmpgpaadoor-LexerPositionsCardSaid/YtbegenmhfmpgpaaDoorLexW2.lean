/- What strings.HasPrefix, the lexer's firstPrefix, isKeyword return. A table of candidates is one block of strings. -/
import Derived.Test.YtbegenmhfmpgpaaDoorLexW1
import Derived.Lib.Hide
namespace Go.Proofs.YtbegenmhfmpgpaaDoor
open Go.RowKit M

/-- the string of a list of bytes -/
abbrev S (l : Bs) : ByteArray := ⟨l.toArray⟩
theorem S_toList (l : Bs) : (S l).data.toList = l := by simp
theorem S_of (s : ByteArray) : S s.data.toList = s := by cases s; simp
theorem extract_S (s : ByteArray) (n : Nat) : s.extract 0 n = S (s.data.toList.take n) := by
  apply ByteArray.ext
  apply Array.ext'
  simp [ByteArray.data_extract]
theorem extract_take (s : ByteArray) (n : Nat) : (s.extract 0 n).data.toList = s.data.toList.take n := by
  simp [ByteArray.data_extract]
theorem extract_drop (s : ByteArray) (n : Nat) : (s.extract n s.size).data.toList = s.data.toList.drop n := by
  rw [ByteArray.data_extract, Array.toList_extract, List.extract_eq_take_drop]
  exact List.take_of_length_le (by simp)

theorem prefix_take (p s : Bs) : p.isPrefixOf s = (decide (p.length ≤ s.length) && (s.take p.length == p)) := by
  rw [Bool.eq_iff_iff, List.isPrefixOf_iff_prefix, List.prefix_iff_eq_take]
  simp
  constructor
  · intro h
    have := congrArg List.length h
    rw [List.length_take] at this
    exact ⟨by omega, h.symm⟩
  · intro h; exact h.2.symm

set_option maxHeartbeats 400000 in
theorem lite_prefix (s p : ByteArray) (w : World) :
    Calls Tryd.prog 99 #[.string s, .string p] w fun e w' => e = .returned (.bool (p.data.toList.isPrefixOf s.data.toList)) ∧ w = w' := by
  have hs : s.size = s.data.toList.length := by simp
  have hp : p.size = p.data.toList.length := by simp
  go_enter Tryd.func99, Tryd.ntmps99
  clear hs hp
  go_wp2
  · rename_i h
    go_ret
    refine ⟨?_, rfl⟩
    have hs : s.size = s.data.toList.length := by simp
    have hp : p.size = p.data.toList.length := by simp
    refine ret_bool ?_
    rw [prefix_take, ByteArray.toList_eq, ByteArray.toList_eq, extract_take, ← hp, ← hs]
    simp [h]
  · rename_i h
    go_ret
    refine ⟨?_, rfl⟩
    have hs : s.size = s.data.toList.length := by simp
    have hp : p.size = p.data.toList.length := by simp
    refine ret_bool ?_
    rw [prefix_take, ← hp, ← hs]
    simp [h]

set_option maxHeartbeats 400000 in
theorem hasPrefix_is (s p : ByteArray) (b : Bool) (h : p.data.toList.isPrefixOf s.data.toList = b) (w : World) :
    Calls Tryd.prog 82 #[.string s, .string p] w fun e w' => e = .returned (.bool b) ∧ w = w' := by
  subst h
  go_enter Tryd.func82, Tryd.ntmps82
  go_wp2_with (go_at_call 99; refine (lite_prefix _ _ _).mono ?_; rintro e w' ⟨rfl, rfl⟩)
  go_ret
  exact ⟨ret_bool (by simp), rfl⟩

theorem firstP_step (l : Bs) (ps : List Bs) (k : Nat) (h : k < ps.length) : firstP l (ps.drop k) = if (ps.getD k []).isPrefixOf l then ps.getD k [] else firstP l (ps.drop (k + 1)) := by
  have e : ps.getD k [] = ps[k] := by simp [h]
  rw [List.drop_eq_getElem_cons h, e]
  rfl
theorem firstP_end (l : Bs) (ps : List Bs) (k : Nat) (h : ps.length ≤ k) : firstP l (ps.drop k) = [] := by
  rw [List.drop_eq_nil_of_le h]; rfl

set_option maxHeartbeats 400000 in
theorem firstPrefix_any (ps : List Bs) (n : Nat) (hn : n = ps.length) (hm : n ≤ 1000) (s : ByteArray) (b : Nat) (w : World)
    (hb : w.heap[b]? = some (.cells (ps.map fun p => Value.string (S p)).toArray 9 (0, 0))) :
    Calls Tryd.prog 78 #[.string s, .slice (some ⟨b, 0, none⟩) n n] w fun e w' => e = .returned (.string (S (firstP s.data.toList ps))) ∧ w = w' := by
  have hcell : ∀ k, k < n → w.cell? ⟨b, k, none⟩ = some (.string (S (ps.getD k []))) := fun k hk => by
    rw [cell_of_row w b k _ _ _ hb]
    simp [show k < ps.length by omega]
  have HC := Lib.hid hcell
  have HN := Lib.hid hn
  clear hcell hb hn
  go_enter Tryd.func78, Tryd.ntmps78
  go_wp2
  go_loop [9] (fun i => ∃ k : Nat, k ≤ n ∧ i = .int .i64 k ∧ Hid (firstP s.data.toList ps = firstP s.data.toList (ps.drop k))) (fun i => n - (intOf i).toNat)
  case atStart => exact ⟨0, by omega, rfl, rfl⟩
  case round =>
    obtain ⟨k, hk, rfl, hF⟩ := hrel
    by_cases hlt : k < n
    · have hc := HC.out k hlt
      have hs := firstP_step s.data.toList ps k (by rw [← HN.out]; exact hlt)
      cases hp : (ps.getD k []).isPrefixOf s.data.toList
      · have hz : Hid (firstP s.data.toList ps = firstP s.data.toList (ps.drop (k + 1))) := by
          unfold Hid; rw [hF.out, hs, hp]; rfl
        have HP := Lib.hid hp
        clear hs hF hp
        go_wp2_with (go_at_call 82; refine (hasPrefix_is _ _ false (by rw [S_toList]; exact HP.out) _).mono ?_; rintro e w' ⟨rfl, rfl⟩)
        go_round
        case rel => exact ⟨k + 1, by omega, by go_num, hz⟩
        case measure => simp [intOf]; omega
      · have hz : Hid (firstP s.data.toList ps = ps.getD k []) := by
          unfold Hid; rw [hF.out, hs, hp]; rfl
        have HP := Lib.hid hp
        clear hs hF hp
        go_wp2_with (go_at_call 82; refine (hasPrefix_is _ _ true (by rw [S_toList]; exact HP.out) _).mono ?_; rintro e w' ⟨rfl, rfl⟩)
        go_ret
        exact ⟨ret_string (by rw [hz.out, List.getD_eq_getElem?_getD]), rfl⟩
    · have hz : Hid (firstP s.data.toList ps = []) := by
        unfold Hid; rw [hF.out, firstP_end _ _ _ (by rw [← HN.out]; omega)]
      clear hF
      go_wp2
      go_ret
      exact ⟨ret_string (by rw [hz.out]), rfl⟩

end Go.Proofs.YtbegenmhfmpgpaaDoor
