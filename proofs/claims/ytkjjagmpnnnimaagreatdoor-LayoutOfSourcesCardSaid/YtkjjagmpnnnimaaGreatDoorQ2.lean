/- What the lexer's symbolAt returns at every string: the symbol that symB names. No conditions but that a string has a length. Plain facts on decimal numerals: what ParseInt says of a word of digits. No program in it. The library functions that the lexer calls, taken by their contracts. No conditions of our own. -/
import Derived.Test.YtkjjagmpnnnimaaGreatDoorQ1
import Derived.Lib.ParseIntB
import Derived.Shelf.Strconv.ErrVarParseInt
import Derived.Test.YtkjjagmpnnnimaaGreatDoorProg
namespace Go.Proofs.YtkjjagmpnnnimaaGreatDoor
open Go.RowKit M

theorem cast_of (c : UInt8) (n : Nat) (h : c.toNat = n) : (c.toNat : Int) = n := by rw [h]
theorem head_of (s : ByteArray) (hp : 0 < s.size) : s.data.toList = s[0] :: rest s 1 := by rw [← rest_cons s 0 hp]; rfl

set_option maxHeartbeats 400000 in
theorem sym_91 (s : ByteArray) (hp : 0 < s.size) (h : s[0].toNat = 91) (w : World) :
    Calls Tryz.prog 71 #[.string s] w fun e w' => e = .returned (.string (S (firstP s.data.toList [[91, 70, 68, 61], [91, 84, 61], [91, 70, 61], [91, 124], [91, 93], [91, 62], [91, 43], [91, 91], [91]]))) ∧ Below w.heap.size w w' := by
  have hv := cast_of _ _ h
  obtain ⟨e1, e2⟩ := notEmpty s hp
  clear h
  go_enter Tryz.func71, Tryz.ntmps71
  go_wp2_with (go_at_call 77; refine (firstPrefix_any [[91, 70, 68, 61], [91, 84, 61], [91, 70, 61], [91, 124], [91, 93], [91, 62], [91, 43], [91, 91], [91]] 9 rfl (by decide) _ _ _ (heap_alloc_new w _)).mono ?_; rintro e w' ⟨rfl, rfl⟩)
  go_ret
  exact ⟨rfl, (Below.refl _ _).alloc (Nat.le_refl _) _⟩

set_option maxHeartbeats 400000 in
theorem sym_124 (s : ByteArray) (hp : 0 < s.size) (h : s[0].toNat = 124) (w : World) :
    Calls Tryz.prog 71 #[.string s] w fun e w' => e = .returned (.string (S (firstP s.data.toList [[124, 126, 124], [124, 124, 124], [124, 124], [124, 93], [124, 62], [124, 125], [124, 41], [124]]))) ∧ Below w.heap.size w w' := by
  have hv := cast_of _ _ h
  obtain ⟨e1, e2⟩ := notEmpty s hp
  clear h
  go_enter Tryz.func71, Tryz.ntmps71
  go_wp2_with (go_at_call 77; refine (firstPrefix_any [[124, 126, 124], [124, 124, 124], [124, 124], [124, 93], [124, 62], [124, 125], [124, 41], [124]] 8 rfl (by decide) _ _ _ (heap_alloc_new w _)).mono ?_; rintro e w' ⟨rfl, rfl⟩)
  go_ret
  exact ⟨rfl, (Below.refl _ _).alloc (Nat.le_refl _) _⟩

set_option maxHeartbeats 400000 in
theorem sym_60 (s : ByteArray) (hp : 0 < s.size) (h : s[0].toNat = 60) (w : World) :
    Calls Tryz.prog 71 #[.string s] w fun e w' => e = .returned (.string (S (firstP s.data.toList [[60, 45, 62], [60, 45], [60, 61], [60]]))) ∧ Below w.heap.size w w' := by
  have hv := cast_of _ _ h
  obtain ⟨e1, e2⟩ := notEmpty s hp
  clear h
  go_enter Tryz.func71, Tryz.ntmps71
  go_wp2_with (go_at_call 77; refine (firstPrefix_any [[60, 45, 62], [60, 45], [60, 61], [60]] 4 rfl (by decide) _ _ _ (heap_alloc_new w _)).mono ?_; rintro e w' ⟨rfl, rfl⟩)
  go_ret
  exact ⟨rfl, (Below.refl _ _).alloc (Nat.le_refl _) _⟩

set_option maxHeartbeats 400000 in
theorem sym_93 (s : ByteArray) (hp : 0 < s.size) (h : s[0].toNat = 93) (w : World) :
    Calls Tryz.prog 71 #[.string s] w fun e w' => e = .returned (.string (S (firstP s.data.toList [[93, 93], [93]]))) ∧ Below w.heap.size w w' := by
  have hv := cast_of _ _ h
  obtain ⟨e1, e2⟩ := notEmpty s hp
  clear h
  go_enter Tryz.func71, Tryz.ntmps71
  go_wp2_with (go_at_call 77; refine (firstPrefix_any [[93, 93], [93]] 2 rfl (by decide) _ _ _ (heap_alloc_new w _)).mono ?_; rintro e w' ⟨rfl, rfl⟩)
  go_ret
  exact ⟨rfl, (Below.refl _ _).alloc (Nat.le_refl _) _⟩

set_option maxHeartbeats 400000 in
theorem sym_43 (s : ByteArray) (hp : 0 < s.size) (h : s[0].toNat = 43) (w : World) :
    Calls Tryz.prog 71 #[.string s] w fun e w' => e = .returned (.string (S (firstP s.data.toList [[43, 93], [43]]))) ∧ Below w.heap.size w w' := by
  have hv := cast_of _ _ h
  obtain ⟨e1, e2⟩ := notEmpty s hp
  clear h
  go_enter Tryz.func71, Tryz.ntmps71
  go_wp2_with (go_at_call 77; refine (firstPrefix_any [[43, 93], [43]] 2 rfl (by decide) _ _ _ (heap_alloc_new w _)).mono ?_; rintro e w' ⟨rfl, rfl⟩)
  go_ret
  exact ⟨rfl, (Below.refl _ _).alloc (Nat.le_refl _) _⟩

set_option maxHeartbeats 400000 in
theorem sym_123 (s : ByteArray) (hp : 0 < s.size) (h : s[0].toNat = 123) (w : World) :
    Calls Tryz.prog 71 #[.string s] w fun e w' => e = .returned (.string (S (firstP s.data.toList [[123, 124], [123]]))) ∧ Below w.heap.size w w' := by
  have hv := cast_of _ _ h
  obtain ⟨e1, e2⟩ := notEmpty s hp
  clear h
  go_enter Tryz.func71, Tryz.ntmps71
  go_wp2_with (go_at_call 77; refine (firstPrefix_any [[123, 124], [123]] 2 rfl (by decide) _ _ _ (heap_alloc_new w _)).mono ?_; rintro e w' ⟨rfl, rfl⟩)
  go_ret
  exact ⟨rfl, (Below.refl _ _).alloc (Nat.le_refl _) _⟩

set_option maxHeartbeats 400000 in
theorem sym_62 (s : ByteArray) (hp : 0 < s.size) (h : s[0].toNat = 62) (w : World) :
    Calls Tryz.prog 71 #[.string s] w fun e w' => e = .returned (.string (S (firstP s.data.toList [[62, 61], [62]]))) ∧ Below w.heap.size w w' := by
  have hv := cast_of _ _ h
  obtain ⟨e1, e2⟩ := notEmpty s hp
  clear h
  go_enter Tryz.func71, Tryz.ntmps71
  go_wp2_with (go_at_call 77; refine (firstPrefix_any [[62, 61], [62]] 2 rfl (by decide) _ _ _ (heap_alloc_new w _)).mono ?_; rintro e w' ⟨rfl, rfl⟩)
  go_ret
  exact ⟨rfl, (Below.refl _ _).alloc (Nat.le_refl _) _⟩

set_option maxHeartbeats 400000 in
theorem sym_45 (s : ByteArray) (hp : 0 < s.size) (h : s[0].toNat = 45) (w : World) :
    Calls Tryz.prog 71 #[.string s] w fun e w' => e = .returned (.string (S (firstP s.data.toList [[45, 62], [45]]))) ∧ Below w.heap.size w w' := by
  have hv := cast_of _ _ h
  obtain ⟨e1, e2⟩ := notEmpty s hp
  clear h
  go_enter Tryz.func71, Tryz.ntmps71
  go_wp2_with (go_at_call 77; refine (firstPrefix_any [[45, 62], [45]] 2 rfl (by decide) _ _ _ (heap_alloc_new w _)).mono ?_; rintro e w' ⟨rfl, rfl⟩)
  go_ret
  exact ⟨rfl, (Below.refl _ _).alloc (Nat.le_refl _) _⟩

set_option maxHeartbeats 400000 in
theorem sym_47 (s : ByteArray) (hp : 0 < s.size) (h : s[0].toNat = 47) (w : World) :
    Calls Tryz.prog 71 #[.string s] w fun e w' => e = .returned (.string (S (firstP s.data.toList [[47, 92], [47]]))) ∧ Below w.heap.size w w' := by
  have hv := cast_of _ _ h
  obtain ⟨e1, e2⟩ := notEmpty s hp
  clear h
  go_enter Tryz.func71, Tryz.ntmps71
  go_wp2_with (go_at_call 77; refine (firstPrefix_any [[47, 92], [47]] 2 rfl (by decide) _ _ _ (heap_alloc_new w _)).mono ?_; rintro e w' ⟨rfl, rfl⟩)
  go_ret
  exact ⟨rfl, (Below.refl _ _).alloc (Nat.le_refl _) _⟩

set_option maxHeartbeats 400000 in
theorem sym_61 (s : ByteArray) (hp : 0 < s.size) (h : s[0].toNat = 61) (w : World) :
    Calls Tryz.prog 71 #[.string s] w fun e w' => e = .returned (.string (S (firstP s.data.toList [[61, 62], [61, 61], [61]]))) ∧ Below w.heap.size w w' := by
  have hv := cast_of _ _ h
  obtain ⟨e1, e2⟩ := notEmpty s hp
  clear h
  go_enter Tryz.func71, Tryz.ntmps71
  go_wp2_with (go_at_call 77; refine (firstPrefix_any [[61, 62], [61, 61], [61]] 3 rfl (by decide) _ _ _ (heap_alloc_new w _)).mono ?_; rintro e w' ⟨rfl, rfl⟩)
  go_ret
  exact ⟨rfl, (Below.refl _ _).alloc (Nat.le_refl _) _⟩

set_option maxHeartbeats 400000 in
theorem sym_33 (s : ByteArray) (hp : 0 < s.size) (h : s[0].toNat = 33) (w : World) :
    Calls Tryz.prog 71 #[.string s] w fun e w' => e = .returned (.string (S (firstP s.data.toList [[33, 61], [33]]))) ∧ Below w.heap.size w w' := by
  have hv := cast_of _ _ h
  obtain ⟨e1, e2⟩ := notEmpty s hp
  clear h
  go_enter Tryz.func71, Tryz.ntmps71
  go_wp2_with (go_at_call 77; refine (firstPrefix_any [[33, 61], [33]] 2 rfl (by decide) _ _ _ (heap_alloc_new w _)).mono ?_; rintro e w' ⟨rfl, rfl⟩)
  go_ret
  exact ⟨rfl, (Below.refl _ _).alloc (Nat.le_refl _) _⟩

set_option maxHeartbeats 400000 in
theorem sym_58 (s : ByteArray) (hp : 0 < s.size) (h : s[0].toNat = 58) (w : World) :
    Calls Tryz.prog 71 #[.string s] w fun e w' => e = .returned (.string (S (firstP s.data.toList [[58, 58], [58]]))) ∧ Below w.heap.size w w' := by
  have hv := cast_of _ _ h
  obtain ⟨e1, e2⟩ := notEmpty s hp
  clear h
  go_enter Tryz.func71, Tryz.ntmps71
  go_wp2_with (go_at_call 77; refine (firstPrefix_any [[58, 58], [58]] 2 rfl (by decide) _ _ _ (heap_alloc_new w _)).mono ?_; rintro e w' ⟨rfl, rfl⟩)
  go_ret
  exact ⟨rfl, (Below.refl _ _).alloc (Nat.le_refl _) _⟩

set_option maxHeartbeats 400000 in
theorem sym_46 (s : ByteArray) (hp : 0 < s.size) (h : s[0].toNat = 46) (w : World) :
    Calls Tryz.prog 71 #[.string s] w fun e w' => e = .returned (.string (S (firstP s.data.toList [[46, 46], [46]]))) ∧ Below w.heap.size w w' := by
  have hv := cast_of _ _ h
  obtain ⟨e1, e2⟩ := notEmpty s hp
  clear h
  go_enter Tryz.func71, Tryz.ntmps71
  go_wp2_with (go_at_call 77; refine (firstPrefix_any [[46, 46], [46]] 2 rfl (by decide) _ _ _ (heap_alloc_new w _)).mono ?_; rintro e w' ⟨rfl, rfl⟩)
  go_ret
  exact ⟨rfl, (Below.refl _ _).alloc (Nat.le_refl _) _⟩

set_option maxHeartbeats 400000 in
theorem sym_64 (s : ByteArray) (hp : 0 < s.size) (h : s[0].toNat = 64) (w : World) :
    Calls Tryz.prog 71 #[.string s] w fun e w' => e = .returned (.string (S (firstP s.data.toList [[64, 64], [64]]))) ∧ Below w.heap.size w w' := by
  have hv := cast_of _ _ h
  obtain ⟨e1, e2⟩ := notEmpty s hp
  clear h
  go_enter Tryz.func71, Tryz.ntmps71
  go_wp2_with (go_at_call 77; refine (firstPrefix_any [[64, 64], [64]] 2 rfl (by decide) _ _ _ (heap_alloc_new w _)).mono ?_; rintro e w' ⟨rfl, rfl⟩)
  go_ret
  exact ⟨rfl, (Below.refl _ _).alloc (Nat.le_refl _) _⟩

set_option maxHeartbeats 400000 in
theorem paren_any (s : ByteArray) (w : World) :
    Calls Tryz.prog 78 #[.string s] w fun e w' => e = .returned (.string (S (parenP s.data.toList))) ∧ Below w.heap.size w w' := by
  have key : ∀ a b : Bool, [40, 124, 126].isPrefixOf s.data.toList = a → [40, 124, 124].isPrefixOf s.data.toList = b →
      Calls Tryz.prog 78 #[.string s] w fun e w' => e = .returned (.string (S (if a || b then [40] else firstP s.data.toList [[40, 124], [40]]))) ∧ Below w.heap.size w w' := by
    intro a b ha hb
    have HA := Lib.hid ha
    have HB := Lib.hid hb
    clear ha hb
    cases a
    · cases b
      · go_enter Tryz.func78, Tryz.ntmps78
        go_wp2_with fail
        refine (hasPrefix_is _ _ false HA.out _).mono ?_
        rintro e w' ⟨rfl, rfl⟩
        go_wp2_with fail
        refine (hasPrefix_is _ _ false HB.out _).mono ?_
        rintro e w' ⟨rfl, rfl⟩
        go_wp2_with (go_at_call 77; refine (firstPrefix_any [[40, 124], [40]] 2 rfl (by decide) _ _ _ (heap_alloc_new w _)).mono ?_; rintro e w' ⟨rfl, rfl⟩)
        go_ret
        exact ⟨rfl, (Below.refl _ _).alloc (Nat.le_refl _) _⟩
      · go_enter Tryz.func78, Tryz.ntmps78
        go_wp2_with fail
        refine (hasPrefix_is _ _ false HA.out _).mono ?_
        rintro e w' ⟨rfl, rfl⟩
        go_wp2_with fail
        refine (hasPrefix_is _ _ true HB.out _).mono ?_
        rintro e w' ⟨rfl, rfl⟩
        go_wp2
        go_ret
        exact ⟨rfl, Below.refl _ _⟩
    · go_enter Tryz.func78, Tryz.ntmps78
      go_wp2_with fail
      refine (hasPrefix_is _ _ true HA.out _).mono ?_
      rintro e w' ⟨rfl, rfl⟩
      go_wp2
      go_ret
      exact ⟨rfl, Below.refl _ _⟩
  have h := key _ _ rfl rfl
  unfold parenP
  exact h

set_option maxHeartbeats 400000 in
theorem sym_40 (s : ByteArray) (hp : 0 < s.size) (h : s[0].toNat = 40) (w : World) :
    Calls Tryz.prog 71 #[.string s] w fun e w' => e = .returned (.string (S (parenP s.data.toList))) ∧ Below w.heap.size w w' := by
  have hv := cast_of _ _ h
  obtain ⟨e1, e2⟩ := notEmpty s hp
  clear h
  go_enter Tryz.func71, Tryz.ntmps71
  go_wp2_with (go_at_call 78; refine (paren_any _ _).mono ?_; rintro e w' ⟨rfl, hb⟩)
  go_ret
  exact ⟨rfl, hb⟩

set_option maxHeartbeats 1000000 in
theorem sym_single (s : ByteArray) (hp : 0 < s.size) (h : s[0].toNat = 125 ∨ s[0].toNat = 41 ∨ s[0].toNat = 42 ∨ s[0].toNat = 37 ∨ s[0].toNat = 92 ∨ s[0].toNat = 59 ∨ s[0].toNat = 44 ∨ s[0].toNat = 63 ∨ s[0].toNat = 36 ∨ s[0].toNat = 38 ∨ s[0].toNat = 94 ∨ s[0].toNat = 35 ∨ s[0].toNat = 95) (w : World) :
    Calls Tryz.prog 71 #[.string s] w fun e w' => e = .returned (.string (S [s[0]])) ∧ Below w.heap.size w w' := by
  have h1 : Hid (s.extract 0 1 = S [s[0]]) := by
    unfold Hid; rw [extract_S, head_of s hp]; rfl
  obtain ⟨e1, e2⟩ := notEmpty s hp
  rcases h with h | h | h | h | h | h | h | h | h | h | h | h | h
  all_goals
    have hv := cast_of _ _ h
    clear h
    go_enter Tryz.func71, Tryz.ntmps71
    go_wp2
    go_ret
    exact ⟨ret_string h1.out, Below.refl _ _⟩

set_option maxHeartbeats 1000000 in
theorem sym_none (s : ByteArray) (hp : 0 < s.size) (h91 : ¬ s[0].toNat = 91) (h124 : ¬ s[0].toNat = 124) (h60 : ¬ s[0].toNat = 60) (h40 : ¬ s[0].toNat = 40) (h93 : ¬ s[0].toNat = 93) (h43 : ¬ s[0].toNat = 43) (h123 : ¬ s[0].toNat = 123) (h62 : ¬ s[0].toNat = 62) (h45 : ¬ s[0].toNat = 45) (h47 : ¬ s[0].toNat = 47) (h61 : ¬ s[0].toNat = 61) (h33 : ¬ s[0].toNat = 33) (h58 : ¬ s[0].toNat = 58) (h46 : ¬ s[0].toNat = 46) (h64 : ¬ s[0].toNat = 64) (h125 : ¬ s[0].toNat = 125) (h41 : ¬ s[0].toNat = 41) (h42 : ¬ s[0].toNat = 42) (h37 : ¬ s[0].toNat = 37) (h92 : ¬ s[0].toNat = 92) (h59 : ¬ s[0].toNat = 59) (h44 : ¬ s[0].toNat = 44) (h63 : ¬ s[0].toNat = 63) (h36 : ¬ s[0].toNat = 36) (h38 : ¬ s[0].toNat = 38) (h94 : ¬ s[0].toNat = 94) (h35 : ¬ s[0].toNat = 35) (h95 : ¬ s[0].toNat = 95) (w : World) :
    Calls Tryz.prog 71 #[.string s] w fun e w' => e = .returned (.string ⟨#[]⟩) ∧ Below w.heap.size w w' := by
  have g91 : ((s[0].toNat : Int) == 91) = false := beq_eq_false_iff_ne.2 (by omega)
  have g124 : ((s[0].toNat : Int) == 124) = false := beq_eq_false_iff_ne.2 (by omega)
  have g60 : ((s[0].toNat : Int) == 60) = false := beq_eq_false_iff_ne.2 (by omega)
  have g40 : ((s[0].toNat : Int) == 40) = false := beq_eq_false_iff_ne.2 (by omega)
  have g93 : ((s[0].toNat : Int) == 93) = false := beq_eq_false_iff_ne.2 (by omega)
  have g43 : ((s[0].toNat : Int) == 43) = false := beq_eq_false_iff_ne.2 (by omega)
  have g123 : ((s[0].toNat : Int) == 123) = false := beq_eq_false_iff_ne.2 (by omega)
  have g62 : ((s[0].toNat : Int) == 62) = false := beq_eq_false_iff_ne.2 (by omega)
  have g45 : ((s[0].toNat : Int) == 45) = false := beq_eq_false_iff_ne.2 (by omega)
  have g47 : ((s[0].toNat : Int) == 47) = false := beq_eq_false_iff_ne.2 (by omega)
  have g61 : ((s[0].toNat : Int) == 61) = false := beq_eq_false_iff_ne.2 (by omega)
  have g33 : ((s[0].toNat : Int) == 33) = false := beq_eq_false_iff_ne.2 (by omega)
  have g58 : ((s[0].toNat : Int) == 58) = false := beq_eq_false_iff_ne.2 (by omega)
  have g46 : ((s[0].toNat : Int) == 46) = false := beq_eq_false_iff_ne.2 (by omega)
  have g64 : ((s[0].toNat : Int) == 64) = false := beq_eq_false_iff_ne.2 (by omega)
  have g125 : ((s[0].toNat : Int) == 125) = false := beq_eq_false_iff_ne.2 (by omega)
  have g41 : ((s[0].toNat : Int) == 41) = false := beq_eq_false_iff_ne.2 (by omega)
  have g42 : ((s[0].toNat : Int) == 42) = false := beq_eq_false_iff_ne.2 (by omega)
  have g37 : ((s[0].toNat : Int) == 37) = false := beq_eq_false_iff_ne.2 (by omega)
  have g92 : ((s[0].toNat : Int) == 92) = false := beq_eq_false_iff_ne.2 (by omega)
  have g59 : ((s[0].toNat : Int) == 59) = false := beq_eq_false_iff_ne.2 (by omega)
  have g44 : ((s[0].toNat : Int) == 44) = false := beq_eq_false_iff_ne.2 (by omega)
  have g63 : ((s[0].toNat : Int) == 63) = false := beq_eq_false_iff_ne.2 (by omega)
  have g36 : ((s[0].toNat : Int) == 36) = false := beq_eq_false_iff_ne.2 (by omega)
  have g38 : ((s[0].toNat : Int) == 38) = false := beq_eq_false_iff_ne.2 (by omega)
  have g94 : ((s[0].toNat : Int) == 94) = false := beq_eq_false_iff_ne.2 (by omega)
  have g35 : ((s[0].toNat : Int) == 35) = false := beq_eq_false_iff_ne.2 (by omega)
  have g95 : ((s[0].toNat : Int) == 95) = false := beq_eq_false_iff_ne.2 (by omega)
  clear h91 h124 h60 h40 h93 h43 h123 h62 h45 h47 h61 h33 h58 h46 h64 h125 h41 h42 h37 h92 h59 h44 h63 h36 h38 h94 h35 h95
  obtain ⟨e1, e2⟩ := notEmpty s hp
  go_enter Tryz.func71, Tryz.ntmps71
  go_wp2
  go_ret
  exact ⟨rfl, Below.refl _ _⟩

set_option maxHeartbeats 400000 in
theorem sym_empty (w : World) : Calls Tryz.prog 71 #[.string ⟨#[]⟩] w fun e w' => e = .returned (.string ⟨#[]⟩) ∧ Below w.heap.size w w' := by
  go_enter Tryz.func71, Tryz.ntmps71
  go_wp2
  go_ret
  exact ⟨rfl, Below.refl _ _⟩

theorem symbol_any (s : ByteArray) (w : World) : Calls Tryz.prog 71 #[.string s] w fun e w' => e = .returned (.string (S (symB s.data.toList))) ∧ Below w.heap.size w w' := by
  by_cases h0 : s.size = 0
  · obtain rfl := size_zero s h0
    exact sym_empty w
  have hp : 0 < s.size := by omega
  have hc : ∀ n : Nat, n < 256 → (s[0] = UInt8.ofNat n ↔ s[0].toNat = n) := fun n hn => by
    rw [← UInt8.toNat_inj]; simp [Nat.mod_eq_of_lt hn]
  have hu : ∀ l : Bs, symB s.data.toList = l → Calls Tryz.prog 71 #[.string s] w (fun e w' => e = .returned (.string (S l)) ∧ Below w.heap.size w w') → Calls Tryz.prog 71 #[.string s] w fun e w' => e = .returned (.string (S (symB s.data.toList))) ∧ Below w.heap.size w w' := fun l e h => by rw [e]; exact h
  have hs : symB s.data.toList = symOf s[0] s.data.toList := by
    rw [head_of s hp]; rfl
  by_cases h91 : s[0] = 91
  · exact hu _ (by rw [hs]; unfold symOf; rw [if_pos h91]) (sym_91 s hp ((hc 91 (by decide)).1 h91) w)
  by_cases h124 : s[0] = 124
  · exact hu _ (by rw [hs]; unfold symOf; rw [if_neg h91, if_pos h124]) (sym_124 s hp ((hc 124 (by decide)).1 h124) w)
  by_cases h60 : s[0] = 60
  · exact hu _ (by rw [hs]; unfold symOf; rw [if_neg h91, if_neg h124, if_pos h60]) (sym_60 s hp ((hc 60 (by decide)).1 h60) w)
  by_cases h40 : s[0] = 40
  · exact hu _ (by rw [hs]; unfold symOf; rw [if_neg h91, if_neg h124, if_neg h60, if_pos h40]) (sym_40 s hp ((hc 40 (by decide)).1 h40) w)
  by_cases h93 : s[0] = 93
  · exact hu _ (by rw [hs]; unfold symOf; rw [if_neg h91, if_neg h124, if_neg h60, if_neg h40, if_pos h93]) (sym_93 s hp ((hc 93 (by decide)).1 h93) w)
  by_cases h43 : s[0] = 43
  · exact hu _ (by rw [hs]; unfold symOf; rw [if_neg h91, if_neg h124, if_neg h60, if_neg h40, if_neg h93, if_pos h43]) (sym_43 s hp ((hc 43 (by decide)).1 h43) w)
  by_cases h123 : s[0] = 123
  · exact hu _ (by rw [hs]; unfold symOf; rw [if_neg h91, if_neg h124, if_neg h60, if_neg h40, if_neg h93, if_neg h43, if_pos h123]) (sym_123 s hp ((hc 123 (by decide)).1 h123) w)
  by_cases h62 : s[0] = 62
  · exact hu _ (by rw [hs]; unfold symOf; rw [if_neg h91, if_neg h124, if_neg h60, if_neg h40, if_neg h93, if_neg h43, if_neg h123, if_pos h62]) (sym_62 s hp ((hc 62 (by decide)).1 h62) w)
  by_cases h45 : s[0] = 45
  · exact hu _ (by rw [hs]; unfold symOf; rw [if_neg h91, if_neg h124, if_neg h60, if_neg h40, if_neg h93, if_neg h43, if_neg h123, if_neg h62, if_pos h45]) (sym_45 s hp ((hc 45 (by decide)).1 h45) w)
  by_cases h47 : s[0] = 47
  · exact hu _ (by rw [hs]; unfold symOf; rw [if_neg h91, if_neg h124, if_neg h60, if_neg h40, if_neg h93, if_neg h43, if_neg h123, if_neg h62, if_neg h45, if_pos h47]) (sym_47 s hp ((hc 47 (by decide)).1 h47) w)
  by_cases h61 : s[0] = 61
  · exact hu _ (by rw [hs]; unfold symOf; rw [if_neg h91, if_neg h124, if_neg h60, if_neg h40, if_neg h93, if_neg h43, if_neg h123, if_neg h62, if_neg h45, if_neg h47, if_pos h61]) (sym_61 s hp ((hc 61 (by decide)).1 h61) w)
  by_cases h33 : s[0] = 33
  · exact hu _ (by rw [hs]; unfold symOf; rw [if_neg h91, if_neg h124, if_neg h60, if_neg h40, if_neg h93, if_neg h43, if_neg h123, if_neg h62, if_neg h45, if_neg h47, if_neg h61, if_pos h33]) (sym_33 s hp ((hc 33 (by decide)).1 h33) w)
  by_cases h58 : s[0] = 58
  · exact hu _ (by rw [hs]; unfold symOf; rw [if_neg h91, if_neg h124, if_neg h60, if_neg h40, if_neg h93, if_neg h43, if_neg h123, if_neg h62, if_neg h45, if_neg h47, if_neg h61, if_neg h33, if_pos h58]) (sym_58 s hp ((hc 58 (by decide)).1 h58) w)
  by_cases h46 : s[0] = 46
  · exact hu _ (by rw [hs]; unfold symOf; rw [if_neg h91, if_neg h124, if_neg h60, if_neg h40, if_neg h93, if_neg h43, if_neg h123, if_neg h62, if_neg h45, if_neg h47, if_neg h61, if_neg h33, if_neg h58, if_pos h46]) (sym_46 s hp ((hc 46 (by decide)).1 h46) w)
  by_cases h64 : s[0] = 64
  · exact hu _ (by rw [hs]; unfold symOf; rw [if_neg h91, if_neg h124, if_neg h60, if_neg h40, if_neg h93, if_neg h43, if_neg h123, if_neg h62, if_neg h45, if_neg h47, if_neg h61, if_neg h33, if_neg h58, if_neg h46, if_pos h64]) (sym_64 s hp ((hc 64 (by decide)).1 h64) w)
  by_cases hs1 : s[0] = 125 ∨ s[0] = 41 ∨ s[0] = 42 ∨ s[0] = 37 ∨ s[0] = 92 ∨ s[0] = 59 ∨ s[0] = 44 ∨ s[0] = 63 ∨ s[0] = 36 ∨ s[0] = 38 ∨ s[0] = 94 ∨ s[0] = 35 ∨ s[0] = 95
  · refine hu _ (by rw [hs]; unfold symOf; rw [if_neg h91, if_neg h124, if_neg h60, if_neg h40, if_neg h93, if_neg h43, if_neg h123, if_neg h62, if_neg h45, if_neg h47, if_neg h61, if_neg h33, if_neg h58, if_neg h46, if_neg h64, if_pos hs1]) (sym_single s hp ?_ w)
    rcases hs1 with h | h | h | h | h | h | h | h | h | h | h | h | h
    all_goals (rw [h]; decide)
  · refine hu [] (by rw [hs]; unfold symOf; rw [if_neg h91, if_neg h124, if_neg h60, if_neg h40, if_neg h93, if_neg h43, if_neg h123, if_neg h62, if_neg h45, if_neg h47, if_neg h61, if_neg h33, if_neg h58, if_neg h46, if_neg h64, if_neg hs1]) (sym_none s hp ?_ ?_ ?_ ?_ ?_ ?_ ?_ ?_ ?_ ?_ ?_ ?_ ?_ ?_ ?_ ?_ ?_ ?_ ?_ ?_ ?_ ?_ ?_ ?_ ?_ ?_ ?_ ?_ w)
    all_goals (intro hh)
    · exact h91 ((hc 91 (by decide)).2 hh)
    · exact h124 ((hc 124 (by decide)).2 hh)
    · exact h60 ((hc 60 (by decide)).2 hh)
    · exact h40 ((hc 40 (by decide)).2 hh)
    · exact h93 ((hc 93 (by decide)).2 hh)
    · exact h43 ((hc 43 (by decide)).2 hh)
    · exact h123 ((hc 123 (by decide)).2 hh)
    · exact h62 ((hc 62 (by decide)).2 hh)
    · exact h45 ((hc 45 (by decide)).2 hh)
    · exact h47 ((hc 47 (by decide)).2 hh)
    · exact h61 ((hc 61 (by decide)).2 hh)
    · exact h33 ((hc 33 (by decide)).2 hh)
    · exact h58 ((hc 58 (by decide)).2 hh)
    · exact h46 ((hc 46 (by decide)).2 hh)
    · exact h64 ((hc 64 (by decide)).2 hh)
    · exact hs1 (by simp only [(hc 125 (by decide)).2 hh]; decide)
    · exact hs1 (by simp only [(hc 41 (by decide)).2 hh]; decide)
    · exact hs1 (by simp only [(hc 42 (by decide)).2 hh]; decide)
    · exact hs1 (by simp only [(hc 37 (by decide)).2 hh]; decide)
    · exact hs1 (by simp only [(hc 92 (by decide)).2 hh]; decide)
    · exact hs1 (by simp only [(hc 59 (by decide)).2 hh]; decide)
    · exact hs1 (by simp only [(hc 44 (by decide)).2 hh]; decide)
    · exact hs1 (by simp only [(hc 63 (by decide)).2 hh]; decide)
    · exact hs1 (by simp only [(hc 36 (by decide)).2 hh]; decide)
    · exact hs1 (by simp only [(hc 38 (by decide)).2 hh]; decide)
    · exact hs1 (by simp only [(hc 94 (by decide)).2 hh]; decide)
    · exact hs1 (by simp only [(hc 35 (by decide)).2 hh]; decide)
    · exact hs1 (by simp only [(hc 95 (by decide)).2 hh]; decide)

end Go.Proofs.YtkjjagmpnnnimaaGreatDoor

namespace Go.Proofs.YtkjjagmpnnnimaaGreatDoor.M
open Go

def intVal (l : Bs) : Nat := l.foldl (fun a c => 10 * a + (c.toNat - 48)) 0
def allDigits (l : Bs) : Bool := l.all digitB

theorem foldl_ge (l : Bs) (a : Nat) : a ≤ l.foldl (fun a c => 10 * a + (c.toNat - 48)) a := by
  induction l generalizing a with
  | nil => simp
  | cons c r ih => simp only [List.foldl_cons]; exact Nat.le_trans (by omega) (ih _)

theorem parseM (l : Bs) (a : Nat) (h : allDigits l = true) (ha : a ≤ 18446744073709551615) :
    Lib.parseUintM 18446744073709551615 a l = if l.foldl (fun a c => 10 * a + (c.toNat - 48)) a ≤ 18446744073709551615 then .ok (l.foldl (fun a c => 10 * a + (c.toNat - 48)) a) else .range := by
  induction l generalizing a with
  | nil => simp [Lib.parseUintM, ha]
  | cons c r ih =>
    simp only [allDigits, List.all_cons, Bool.and_eq_true] at h
    obtain ⟨hc, hr⟩ := h
    have hc' : 48 ≤ c.toNat ∧ c.toNat ≤ 57 := by simpa [digitB] using hc
    have hg := foldl_ge r (10 * a + (c.toNat - 48))
    rw [Lib.parseUintM, if_pos hc', List.foldl_cons]
    by_cases h1 : 1844674407370955162 ≤ a
    · rw [if_pos h1, if_neg (by omega)]
    · rw [if_neg h1]
      have e : a * 10 + (c.toNat - 48) = 10 * a + (c.toNat - 48) := by omega
      rw [e]
      by_cases h2 : 18446744073709551615 < 10 * a + (c.toNat - 48)
      · rw [if_pos h2, if_neg (by omega)]
      · rw [if_neg h2, ih _ hr (by omega)]

theorem parse_digits (l : Bs) (hne : l ≠ []) (h : allDigits l = true) : Lib.parseIntB 64 l = if intVal l < 9223372036854775808 then .ok (intVal l : Int) else .range := by
  cases l with
  | nil => exact absurd rfl hne
  | cons c r =>
    have hc : digitB c = true := by simp only [allDigits, List.all_cons, Bool.and_eq_true] at h; exact h.1
    have hc' : 48 ≤ c.toNat ∧ c.toNat ≤ 57 := by simpa [digitB] using hc
    have h43 : ¬ (c.toNat = 43 ∨ c.toNat = 45) := by omega
    have h45 : ¬ c.toNat = 45 := by omega
    have hm := parseM (c :: r) 0 h (by omega)
    unfold Lib.parseIntB
    simp only [if_neg h43]
    have e : Lib.parseUintB 64 (c :: r) = Lib.parseUintM 18446744073709551615 0 (c :: r) := by
      unfold Lib.parseUintB; rw [if_neg (by simp)]
    rw [e, hm]
    unfold intVal
    generalize List.foldl (fun a c => 10 * a + (c.toNat - 48)) 0 (c :: r) = V
    by_cases h1 : V ≤ 18446744073709551615
    · rw [if_pos h1]
      by_cases h2 : V < 9223372036854775808
      · have h3 : ¬ 2 ^ (64 - 1) ≤ V := by omega
        simp [h45, h2, h3]
      · have h3 : 2 ^ (64 - 1) ≤ V := by omega
        simp [h45, h2, h3]
    · rw [if_neg h1, if_neg (by omega)]

/-- what an item comes to: its kind, its number, its text, its error -/
structure TR where
  kind : Int
  num : Int
  str : Bs
  err : Int

def intR (l : Bs) : TR :=
  if l.head? = some 48 ∧ l ≠ [48] then ⟨0, 0, [], 2⟩
  else if allDigits l = false then ⟨0, 0, [], 2⟩
  else if intVal l < 9223372036854775808 then ⟨2, (intVal l : Int), [], 0⟩ else ⟨0, 0, [], 9⟩
def wordR (l : Bs) : TR :=
  if (l.head?.map digitB) = some true then intR l
  else if kwB l then ⟨3, 0, l, 0⟩
  else if l.length ≤ 64 then ⟨1, 0, l, 0⟩ else ⟨0, 0, [], 2⟩
def itemR (l : Bs) : TR :=
  if wordN l ≠ 0 then wordR (l.take (wordN l))
  else if symB l ≠ [] then ⟨4, 0, symB l, 0⟩ else ⟨0, 0, [], 2⟩
def itemN (l : Bs) : Nat := if wordN l ≠ 0 then wordN l else (symB l).length

end Go.Proofs.YtkjjagmpnnnimaaGreatDoor.M

namespace Go.Proofs
open Go.Shelf
def Tryz.laysC174_ren : Go.Shelf.Ren := ⟨fun | 174 => 79 | 247 => 81 | 245 => 82 | 287 => 84 | 279 => 85 | 280 => 86 | 281 => 87 | 282 => 88 | 321 => 89 | 322 => 90 | 316 => 91 | 171 => 93 | 205 => 92 | 243 => 94 | 246 => 95 | 283 => 96 | 284 => 97 | 285 => 98 | 286 => 99 | 129 => 101 | 317 => 100 | 318 => 102 | 319 => 103 | 320 => 104 | 337 => 105 | 338 => 106 | n => n, fun | 9 => 9 | 3 => 3 | 2 => 2 | 75 => 89 | 85 => 90 | 4 => 4 | 167 => 94 | 5 => 5 | 53 => 95 | 175 => 96 | 46 => 80 | 168 => 98 | 37 => 102 | 0 => 0 | 210 => 104 | 21 => 21 | 127 => 106 | 145 => 109 | 143 => 107 | 171 => 111 | 173 => 114 | 212 => 117 | 51 => 118 | 20 => 20 | 213 => 119 | 232 => 123 | 233 => 124 | 80 => 51 | n => n, fun | 15 => 0 | 16 => 1 | 17 => 2 | 18 => 3 | 19 => 4 | n => n⟩
theorem Tryz.laysC174 : Go.Proofs.LaysC.n174 Tryz.prog Tryz.laysC174_ren := {
  mixed := by kernel_rfl
  f129 := Tryz.func101.trans (congrArg some (by kernel_rfl))
  f171 := Tryz.func93.trans (congrArg some (by kernel_rfl))
  f174 := Tryz.func79.trans (congrArg some (by kernel_rfl))
  f205 := Tryz.func92.trans (congrArg some (by kernel_rfl))
  f243 := Tryz.func94.trans (congrArg some (by kernel_rfl))
  f245 := Tryz.func82.trans (congrArg some (by kernel_rfl))
  f246 := Tryz.func95.trans (congrArg some (by kernel_rfl))
  f247 := Tryz.func81.trans (congrArg some (by kernel_rfl))
  f279 := Tryz.func85.trans (congrArg some (by kernel_rfl))
  f280 := Tryz.func86.trans (congrArg some (by kernel_rfl))
  f281 := Tryz.func87.trans (congrArg some (by kernel_rfl))
  f282 := Tryz.func88.trans (congrArg some (by kernel_rfl))
  f283 := Tryz.func96.trans (congrArg some (by kernel_rfl))
  f284 := Tryz.func97.trans (congrArg some (by kernel_rfl))
  f285 := Tryz.func98.trans (congrArg some (by kernel_rfl))
  f286 := Tryz.func99.trans (congrArg some (by kernel_rfl))
  f287 := Tryz.func84.trans (congrArg some (by kernel_rfl))
  f316 := Tryz.func91.trans (congrArg some (by kernel_rfl))
  f317 := Tryz.func100.trans (congrArg some (by kernel_rfl))
  f318 := Tryz.func102.trans (congrArg some (by kernel_rfl))
  f319 := Tryz.func103.trans (congrArg some (by kernel_rfl))
  f320 := Tryz.func104.trans (congrArg some (by kernel_rfl))
  f321 := Tryz.func89.trans (congrArg some (by kernel_rfl))
  f322 := Tryz.func90.trans (congrArg some (by kernel_rfl))
  f337 := Tryz.func105.trans (congrArg some (by kernel_rfl))
  f338 := Tryz.func106.trans (congrArg some (by kernel_rfl))
  t0 := Tryz.underlying0
  a0 := Tryz.isAgg0
  z0 := Tryz.sizeOf0
  v0 := Tryz.zeroValue0
  t2 := Tryz.underlying2
  a2 := Tryz.isAgg2
  z2 := Tryz.sizeOf2
  v2 := Tryz.zeroValue2
  t3 := Tryz.underlying3
  a3 := Tryz.isAgg3
  z3 := Tryz.sizeOf3
  v3 := Tryz.zeroValue3
  t4 := Tryz.underlying4
  a4 := Tryz.isAgg4
  z4 := Tryz.sizeOf4
  v4 := Tryz.zeroValue4
  t5 := Tryz.underlying5
  a5 := Tryz.isAgg5
  z5 := Tryz.sizeOf5
  v5 := Tryz.zeroValue5
  t9 := Tryz.underlying9
  a9 := Tryz.isAgg9
  z9 := Tryz.sizeOf9
  v9 := Tryz.zeroValue9
  t20 := Tryz.underlying20
  a20 := Tryz.isAgg20
  z20 := Tryz.sizeOf20
  v20 := Tryz.zeroValue20
  t21 := Tryz.underlying21
  a21 := Tryz.isAgg21
  z21 := Tryz.sizeOf21
  v21 := Tryz.zeroValue21
  t37 := Tryz.underlying102
  a37 := Tryz.isAgg102
  z37 := Tryz.sizeOf102
  v37 := Tryz.zeroValue102
  t46 := Tryz.underlying80
  a46 := Tryz.isAgg80
  z46 := Tryz.sizeOf80
  v46 := Tryz.zeroValue80
  t51 := Tryz.underlying118
  a51 := Tryz.isAgg118
  z51 := Tryz.sizeOf118
  v51 := Tryz.zeroValue118
  t53 := Tryz.underlying95
  a53 := Tryz.isAgg95
  z53 := Tryz.sizeOf95
  v53 := Tryz.zeroValue95
  t75 := Tryz.underlying89
  a75 := Tryz.isAgg89
  z75 := Tryz.sizeOf89
  v75 := Tryz.zeroValue89
  t85 := Tryz.underlying90
  a85 := Tryz.isAgg90
  z85 := Tryz.sizeOf90
  v85 := Tryz.zeroValue90
  t127 := Tryz.underlying106
  a127 := Tryz.isAgg106
  z127 := Tryz.sizeOf106
  v127 := Tryz.zeroValue106
  t143 := Tryz.underlying107
  a143 := Tryz.isAgg107
  z143 := Tryz.sizeOf107
  v143 := Tryz.zeroValue107
  t145 := Tryz.underlying109
  a145 := Tryz.isAgg109
  z145 := Tryz.sizeOf109
  v145 := Tryz.zeroValue109
  t167 := Tryz.underlying94
  a167 := Tryz.isAgg94
  z167 := Tryz.sizeOf94
  v167 := Tryz.zeroValue94
  t168 := Tryz.underlying98
  a168 := Tryz.isAgg98
  z168 := Tryz.sizeOf98
  v168 := Tryz.zeroValue98
  t171 := Tryz.underlying111
  a171 := Tryz.isAgg111
  z171 := Tryz.sizeOf111
  v171 := Tryz.zeroValue111
  t173 := Tryz.underlying114
  a173 := Tryz.isAgg114
  z173 := Tryz.sizeOf114
  v173 := Tryz.zeroValue114
  t175 := Tryz.underlying96
  a175 := Tryz.isAgg96
  z175 := Tryz.sizeOf96
  v175 := Tryz.zeroValue96
  t210 := Tryz.underlying104
  a210 := Tryz.isAgg104
  z210 := Tryz.sizeOf104
  v210 := Tryz.zeroValue104
  t212 := Tryz.underlying117
  a212 := Tryz.isAgg117
  z212 := Tryz.sizeOf117
  v212 := Tryz.zeroValue117
  t213 := Tryz.underlying119
  a213 := Tryz.isAgg119
  z213 := Tryz.sizeOf119
  t232 := Tryz.underlying123
  a232 := Tryz.isAgg123
  z232 := Tryz.sizeOf123
  v232 := Tryz.zeroValue123
  t233 := Tryz.underlying124
  a233 := Tryz.isAgg124
  z233 := Tryz.sizeOf124
  v233 := Tryz.zeroValue124
  g15 := by kernel_rfl
  g16 := by kernel_rfl
  g17 := by kernel_rfl
  g18 := by kernel_rfl
  g19 := by kernel_rfl
  t80 := Tryz.underlying51
  a80 := Tryz.isAgg51
  z80 := Tryz.sizeOf51
  v80 := Tryz.zeroValue51
  i0 := by kernel_rfl
  i2 := by kernel_rfl
  i3 := by kernel_rfl
  i4 := by kernel_rfl
  i5 := by kernel_rfl
  i9 := by kernel_rfl
  i20 := by kernel_rfl
  i21 := by kernel_rfl
  i37 := by kernel_rfl
  i46 := by kernel_rfl
  i51 := by kernel_rfl
  i53 := by kernel_rfl
  i75 := by kernel_rfl
  i80 := by kernel_rfl
  i85 := by kernel_rfl
  i127 := by kernel_rfl
  i143 := by kernel_rfl
  i145 := by kernel_rfl
  i167 := by kernel_rfl
  i168 := by kernel_rfl
  i171 := by kernel_rfl
  i173 := by kernel_rfl
  i175 := by kernel_rfl
  i210 := by kernel_rfl
  i212 := by kernel_rfl
  i232 := by kernel_rfl
  i233 := by kernel_rfl
  m15 := by kernel_rfl
  m16 := by kernel_rfl
  m17 := by kernel_rfl
  m18 := by kernel_rfl
  m19 := by kernel_rfl
  c0 := by kernel_rfl
  c2 := by kernel_rfl
  c3 := by kernel_rfl
  c4 := by kernel_rfl
  c5 := by kernel_rfl
  c9 := by kernel_rfl
  c20 := by kernel_rfl
  c21 := by kernel_rfl
  c37 := by kernel_rfl
  c46 := by kernel_rfl
  c51 := by kernel_rfl
  c53 := by kernel_rfl
  c75 := by kernel_rfl
  c80 := by kernel_rfl
  c85 := by kernel_rfl
  c127 := by kernel_rfl
  c143 := by kernel_rfl
  c145 := by kernel_rfl
  c167 := by kernel_rfl
  c168 := by kernel_rfl
  c171 := by kernel_rfl
  c173 := by kernel_rfl
  c175 := by kernel_rfl
  c210 := by kernel_rfl
  c212 := by kernel_rfl
  c213 := by kernel_rfl
  c232 := by kernel_rfl
  c233 := by kernel_rfl }
open Go.RowKit in
theorem Tryz.strconv_ParseInt_10_at64_ok (s : ByteArray) (hmax : s.size ≤ 9223372036854775806) (v : Int) (h : Lib.parseIntB 64 s.data.toList = .ok v) (w : World) :
    Calls Tryz.prog 79 #[.string s, .int .i64 10, .int .i64 64] w fun e w' => e = .returned (.tuple #[.int .i64 v, .nilIface]) ∧ (w' = w ∨ ∃ t, w' = Lib.bytesWorld w 5 t) := Any.strconv_ParseInt_10_at64_ok Tryz.laysC174 s hmax v h w
open Go.RowKit in
theorem Tryz.strconv_ParseInt_10_at64_range_var (s : ByteArray) (hlim : s.size ≤ 281474976710656) (h : Lib.parseIntB 64 s.data.toList = .range) (tp : TypeId) (p : Value) (w : World) (hvar : w.var? Tryz.prog "strconv.ErrRange" = some #[.iface tp p]) :
    Calls Tryz.prog 79 #[.string s, .int .i64 10, .int .i64 64] w fun e w' => ∃ N, e = .returned (.tuple #[.int .i64 (Lib.intSat 64 s.data.toList), .iface 98 (.pointer (some ⟨N, 0, none⟩))]) ∧ w.heap.size ≤ N ∧ w'.heap[N]? = some (.cells #[.string ⟨#[80, 97, 114, 115, 101, 73, 110, 116]⟩, .string s, .iface tp p] 104 (0, 0)) ∧ Below w.heap.size w w' := Any.strconv_ParseInt_10_at64_range_var Tryz.laysC174 s hlim h tp p w hvar
end Go.Proofs
