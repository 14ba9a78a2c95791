/- What the reference's symbolAt returns: the symbol that symB names. -/
import Derived.Test.YtoogbgmneabfnaaDoorG18
import Derived.IntWalk
namespace Go.Proofs.YtoogbgmneabfnaaDoor
open Go.RowKit M

theorem firstP_snoc (l : Bs) (ps : List Bs) (p : Bs) (hne : ∀ q, q ∈ ps → q ≠ []) : firstP l (ps ++ [p]) = if firstP l ps ≠ [] then firstP l ps else if p.isPrefixOf l then p else [] := by
  induction ps with
  | nil => simp [firstP]
  | cons a r ih =>
    have ha := hne a (by simp)
    have := ih (fun q hq => hne q (by simp [hq]))
    show (if a.isPrefixOf l then a else firstP l (r ++ [p])) = if (if a.isPrefixOf l then a else firstP l r) ≠ [] then (if a.isPrefixOf l then a else firstP l r) else if p.isPrefixOf l then p else []
    by_cases h : a.isPrefixOf l = true
    · rw [if_pos h, if_pos h, if_pos ha]
    · rw [if_neg h, if_neg h, this]
theorem symbolsL_ne : ∀ q, q ∈ symbolsL → q ≠ [] := by decide
theorem symbolsL_len : symbolsL.length = 59 := by decide
theorem take_next (k : Nat) (h : k < 59) : symbolsL.take (k + 1) = symbolsL.take k ++ [symbolsL.getD k []] := by
  have h' : k < symbolsL.length := by rw [symbolsL_len]; exact h
  rw [List.take_succ_eq_append_getElem h']
  simp [h']
theorem symbolsL_at : ∀ k : Fin 59, 1 ≤ (symbolsL.getD k.val []).length ∧ (symbolsL.getD k.val []).length ≤ 4 := by decide
theorem symbolsL_desc : ∀ k : Fin 59, ∀ j : Fin 59, j.val ≤ k.val → (symbolsL.getD k.val []).length ≤ (symbolsL.getD j.val []).length := by decide +kernel
theorem firstP_mem (l : Bs) (ps : List Bs) (h : firstP l ps ≠ []) : firstP l ps ∈ ps := by
  induction ps with
  | nil => exact absurd rfl h
  | cons a r ih =>
    unfold firstP at h ⊢
    by_cases ha : a.isPrefixOf l = true
    · rw [if_pos ha]; simp
    · rw [if_neg ha] at h ⊢; simp [ih h]
theorem best_long (l : Bs) (k : Nat) (hk : k < 59) (h : firstP l (symbolsL.take k) ≠ []) : (symbolsL.getD k []).length ≤ (firstP l (symbolsL.take k)).length := by
  have hm := firstP_mem l _ h
  obtain ⟨j, hj, he⟩ := List.getElem_of_mem hm
  have hjk : j < k := by rw [List.length_take] at hj; omega
  rw [← he, List.getElem_take]
  have h2 := symbolsL_desc ⟨k, hk⟩ ⟨j, by omega⟩ (by simp; omega)
  have h3 : j < symbolsL.length := by rw [symbolsL_len]; omega
  simpa [h3] using h2
theorem best_le (l : Bs) (k : Nat) : (firstP l (symbolsL.take k)).length ≤ 4 := by
  by_cases h : firstP l (symbolsL.take k) = []
  · rw [h]; simp
  · have hm := List.mem_of_mem_take (firstP_mem l _ h)
    have : ∀ q, q ∈ symbolsL → q.length ≤ 4 := by decide
    exact this _ hm

/-- the symbols that begin with one byte -/
theorem firstP_filter (c : UInt8) (r : Bs) (ps : List Bs) (hne : ∀ q, q ∈ ps → q ≠ []) : firstP (c :: r) ps = firstP (c :: r) (ps.filter fun q => q.head? == some c) := by
  induction ps with
  | nil => rfl
  | cons a t ih =>
    have ih := ih (fun q hq => hne q (by simp [hq]))
    cases a with
    | nil => exact absurd rfl (hne [] (by simp))
    | cons x y =>
      rw [List.filter_cons]
      by_cases hx : x = c
      · subst hx
        rw [if_pos (by simp)]
        show (if _ then _ else _) = (if _ then _ else _)
        rw [ih]
      · rw [if_neg (by simp [hx])]
        show (if (x :: y).isPrefixOf (c :: r) then x :: y else firstP (c :: r) t) = _
        have : (x :: y).isPrefixOf (c :: r) = false := by simp [List.isPrefixOf, hx]
        rw [this, if_neg (by decide), ih]

/-- the exception of the document -/
def excB (l : Bs) : Bool := [40, 124, 126].isPrefixOf l || [40, 124, 124].isPrefixOf l
theorem symB_spec (l : Bs) : symB l = if excB l then [40] else firstP l symbolsL := by
  cases l with
  | nil => rfl
  | cons c r =>
    rw [firstP_filter c r symbolsL symbolsL_ne]
    show symOf c (c :: r) = _
    by_cases h40 : c = 40
    · subst h40; rfl
    · have he : excB (c :: r) = false := by
        have h' : (40 == c) = false := beq_eq_false_iff_ne.2 (fun e => h40 e.symm)
        unfold excB; simp [List.isPrefixOf, h']
      rw [he, if_neg (by decide)]
      by_cases h91 : c = 91
      · subst h91; rfl
      by_cases h124 : c = 124
      · subst h124; rfl
      by_cases h60 : c = 60
      · subst h60; rfl
      by_cases h93 : c = 93
      · subst h93; rfl
      by_cases h43 : c = 43
      · subst h43; rfl
      by_cases h123 : c = 123
      · subst h123; rfl
      by_cases h62 : c = 62
      · subst h62; rfl
      by_cases h45 : c = 45
      · subst h45; rfl
      by_cases h47 : c = 47
      · subst h47; rfl
      by_cases h61 : c = 61
      · subst h61; rfl
      by_cases h33 : c = 33
      · subst h33; rfl
      by_cases h58 : c = 58
      · subst h58; rfl
      by_cases h46 : c = 46
      · subst h46; rfl
      by_cases h64 : c = 64
      · subst h64; rfl
      by_cases h125 : c = 125
      · subst h125; rfl
      by_cases h41 : c = 41
      · subst h41; rfl
      by_cases h42 : c = 42
      · subst h42; rfl
      by_cases h37 : c = 37
      · subst h37; rfl
      by_cases h92 : c = 92
      · subst h92; rfl
      by_cases h59 : c = 59
      · subst h59; rfl
      by_cases h44 : c = 44
      · subst h44; rfl
      by_cases h63 : c = 63
      · subst h63; rfl
      by_cases h36 : c = 36
      · subst h36; rfl
      by_cases h38 : c = 38
      · subst h38; rfl
      by_cases h94 : c = 94
      · subst h94; rfl
      by_cases h35 : c = 35
      · subst h35; rfl
      by_cases h95 : c = 95
      · subst h95; rfl
      have hf : (symbolsL.filter fun q => q.head? == some c) = [] := by
        rw [List.filter_eq_nil_iff]
        intro q hq
        have hh : ∀ q, q ∈ symbolsL → q.head? = some 40 ∨ q.head? = some 91 ∨ q.head? = some 124 ∨ q.head? = some 60 ∨ q.head? = some 93 ∨ q.head? = some 43 ∨ q.head? = some 123 ∨ q.head? = some 62 ∨ q.head? = some 45 ∨ q.head? = some 47 ∨ q.head? = some 61 ∨ q.head? = some 33 ∨ q.head? = some 58 ∨ q.head? = some 46 ∨ q.head? = some 64 ∨ q.head? = some 125 ∨ q.head? = some 41 ∨ q.head? = some 42 ∨ q.head? = some 37 ∨ q.head? = some 92 ∨ q.head? = some 59 ∨ q.head? = some 44 ∨ q.head? = some 63 ∨ q.head? = some 36 ∨ q.head? = some 38 ∨ q.head? = some 94 ∨ q.head? = some 35 ∨ q.head? = some 95 := by decide
        have := hh q hq
        intro hc
        have hc : q.head? = some c := by simpa using hc
        rw [hc] at this
        simp only [Option.some_inj] at this
        rcases this with h | h | h | h | h | h | h | h | h | h | h | h | h | h | h | h | h | h | h | h | h | h | h | h | h | h | h | h
        · exact h40 h
        · exact h91 h
        · exact h124 h
        · exact h60 h
        · exact h93 h
        · exact h43 h
        · exact h123 h
        · exact h62 h
        · exact h45 h
        · exact h47 h
        · exact h61 h
        · exact h33 h
        · exact h58 h
        · exact h46 h
        · exact h64 h
        · exact h125 h
        · exact h41 h
        · exact h42 h
        · exact h37 h
        · exact h92 h
        · exact h59 h
        · exact h44 h
        · exact h63 h
        · exact h36 h
        · exact h38 h
        · exact h94 h
        · exact h35 h
        · exact h95 h
      rw [hf]
      unfold symOf
      rw [if_neg h91, if_neg h124, if_neg h60, if_neg h40, if_neg h93, if_neg h43, if_neg h123, if_neg h62, if_neg h45, if_neg h47, if_neg h61, if_neg h33, if_neg h58, if_neg h46, if_neg h64, if_neg (by rintro (h | h | h | h | h | h | h | h | h | h | h | h | h) <;> contradiction)]
      rfl

theorem below_drewN' {B : Nat} {a w : World} (h : Below B a w) (n : Nat) : Below B a (w.drewN n) := ⟨h.os, h.tape, h.output, h.size, h.block⟩

/-- the exception, by the byte behind the parenthesis and the bar -/
theorem exc_spec (s : ByteArray) (i : Nat) : excB (rest s i) = (decide (firstP (rest s i) symbolsL = [40, 124]) && (if h : i + 2 < s.size then (s[i + 2].toNat == 126 || s[i + 2].toNat == 124) else false)) := by
  have hb : ∀ n : Nat, n < 256 → ∀ c : UInt8, (UInt8.ofNat n == c) = (c.toNat == n) := by
    intro n hn c
    rw [Bool.eq_iff_iff]
    simp only [beq_iff_eq]
    rw [← UInt8.toNat_inj]
    simp [Nat.mod_eq_of_lt hn]
    exact eq_comm
  have h40 : ∀ x : Bs, firstP (40 :: 124 :: x) symbolsL = [40, 124] := fun x => by
    rw [firstP_filter 40 (124 :: x) symbolsL symbolsL_ne]; rfl
  have hpre : firstP (rest s i) symbolsL = [40, 124] → [40, 124].isPrefixOf (rest s i) = true := by
    intro h
    have : ∀ ps : List Bs, firstP (rest s i) ps ≠ [] → (firstP (rest s i) ps).isPrefixOf (rest s i) = true := by
      intro ps
      induction ps with
      | nil => intro h; exact absurd rfl h
      | cons a r ih =>
        intro h
        unfold firstP at h ⊢
        by_cases ha : a.isPrefixOf (rest s i) = true
        · rw [if_pos ha]; exact ha
        · rw [if_neg ha] at h ⊢; exact ih h
    have h2 := this symbolsL (by rw [h]; decide)
    rw [h] at h2
    exact h2
  by_cases h2 : [40, 124].isPrefixOf (rest s i) = true
  · have hle := prefix2_le s i _ _ h2
    have e0 := rest_cons s i (by omega)
    have e1 := rest_cons s (i + 1) (by omega)
    rw [e0, e1] at h2
    simp only [List.isPrefixOf, Bool.and_eq_true, beq_iff_eq, and_true] at h2
    obtain ⟨a, b⟩ := h2
    have ef : rest s i = 40 :: 124 :: rest s (i + 2) := by rw [e0, e1, ← a, ← b]
    rw [ef, h40, decide_eq_true rfl, Bool.true_and]
    unfold excB
    by_cases h3 : i + 2 < s.size
    · rw [dif_pos h3, rest_cons s (i + 2) h3]
      have b1 := hb 126 (by decide) s[i + 2]
      have b2 := hb 124 (by decide) s[i + 2]
      rw [← b1, ← b2]
      simp [List.isPrefixOf]
    · rw [dif_neg h3, rest_end s (i + 2) (by omega)]
      rfl
  · have hne : ¬ firstP (rest s i) symbolsL = [40, 124] := fun h => h2 (hpre h)
    rw [decide_eq_false hne, Bool.false_and]
    unfold excB
    have hx : ∀ c : UInt8, [40, 124, c].isPrefixOf (rest s i) = false := by
      intro c
      cases hh : [40, 124, c].isPrefixOf (rest s i)
      · rfl
      · exfalso
        apply h2
        rw [List.isPrefixOf_iff_prefix] at hh ⊢
        exact List.IsPrefix.trans ⟨[c], rfl⟩ hh
    rw [hx, hx]; rfl

set_option maxHeartbeats 2000000 in
theorem rsym_loop (s : ByteArray) (hm : s.size ≤ 65536) (i : Nat) (hi : i ≤ s.size) (w : World) :
    Calls Tryd.prog 48 #[.string s, .int .i64 i] w fun e w' => e = .returned (.string (S (symB (rest s i)))) ∧ Below w.heap.size w w' := by
  go_enter Tryd.func48, Tryd.ntmps48
  go_wp2_with fail
  refine (symbols_ref _).mono ?_
  rintro e w0 ⟨rfl, hw0⟩
  have hb0 : w0.heap[w.heap.size]? = some (strBlock symbolsL) := by rw [← hw0]; exact heap_alloc_new _ _
  have HC := Lib.hid (fun k => str_cell hb0 k)
  have HB0 : Hid (Below w.heap.size w w0) := by rw [← hw0]; exact (Below.refl _ _).alloc (Nat.le_refl _) _
  clear hw0 hb0
  go_wp2_with fail
  go_loopw [5, 7] (fun t5 t7 wr => ∃ k : Nat, k ≤ 59 ∧ t7 = .int .i64 k ∧ t5 = .string (S (firstP (rest s i) (symbolsL.take k))) ∧ Hid (∃ m, wr = w0.drewN m)) (fun _ t7 _ => 59 - (intOf t7).toNat)
  case atStart => exact ⟨0, by omega, rfl, rfl, 0, rfl⟩
  case round =>
    obtain ⟨k, hk, rfl, rfl, hW⟩ := hrel
    obtain ⟨m, rfl⟩ := hW
    by_cases hlt : k < 59
    · have hc := HC.out k (by rw [symbolsL_len]; exact hlt)
      obtain ⟨hp1, hp4⟩ := symbolsL_at ⟨k, hlt⟩
      simp only at hp1 hp4
      have hb4 := best_le (rest s i) k
      have hnx := firstP_snoc (rest s i) (symbolsL.take k) (symbolsL.getD k []) (fun q hq => symbolsL_ne q (List.mem_of_mem_take hq))
      rw [← take_next k hlt] at hnx
      have hbl := best_long (rest s i) k hlt
      have hpx := prefix_take (symbolsL.getD k []) (rest s i)
      rw [rest_length] at hpx
      generalize firstP (rest s i) (symbolsL.take k) = q at *
      generalize symbolsL.getD k [] = p at *
      have HNX : Hid (firstP (rest s i) (symbolsL.take (k + 1)) = if q ≠ [] then q else if p.isPrefixOf (rest s i) then p else []) := hnx
      clear hnx
      have zp : (S p).size = p.length := rfl
      have zq : (S q).size = q.length := rfl
      by_cases h1 : i + p.length ≤ s.size
      · have hext : (s.extract i (i + p.length)).data.toList = (rest s i).take p.length := by
          unfold rest
          rw [ByteArray.data_extract, Array.toList_extract, List.extract_eq_take_drop]
          rw [Nat.add_sub_cancel_left]
        cases hp : p.isPrefixOf (rest s i)
        · have c2 : ((s.extract i (i + (S p).size)).toList == (S p).toList) = false := by
            rw [ByteArray.toList_eq, ByteArray.toList_eq, S_toList, zp, hext]
            rw [hp, decide_eq_true (by omega), Bool.true_and] at hpx
            exact hpx.symm
          have hz : Hid (firstP (rest s i) (symbolsL.take (k + 1)) = q) := by
            have hnx := HNX.out
            rw [hp] at hnx
            unfold Hid
            rw [hnx]
            by_cases hq : q = []
            · rw [if_neg (by simp [hq]), if_neg (by decide), hq]
            · rw [if_pos hq]
          have g1 : (i : Int) + (S p).size ≤ (s.size : Int) := by rw [zp]; omega
          have g4 : ((S p).size : Int) ≤ 4 := by rw [zp]; omega
          generalize S p = t at *
          clear hbl hpx zp zq hp1 hp4 h1 hp hext HNX hb4
          go_wp2
          have s1 : IntKind.i64.wrap ((i : Int) + (t.size : Int)) = (i : Int) + (t.size : Int) := IntWalk.i64_in _ (by omega)
          have s2 : decide ((i : Int) + (t.size : Int) ≤ (s.size : Int)) = true := by simp; omega
          have s3 : (0 : Int) ≤ (i : Int) + (t.size : Int) := by omega
          have s4 : ((i : Int) + (t.size : Int)).toNat = i + t.size := by omega
          go_quiet (fail)
          clear s1 s2 s3 s4
          go_wp2
          go_roundw
          case rel => exact ⟨k + 1, by omega, by go_num, by rw [hz.out], _, rfl⟩
          case measure => simp [intOf]; omega
        · have c2 : ((s.extract i (i + (S p).size)).toList == (S p).toList) = true := by
            rw [ByteArray.toList_eq, ByteArray.toList_eq, S_toList, zp, hext]
            rw [hp, decide_eq_true (by omega), Bool.true_and] at hpx
            exact hpx.symm
          have g1 : (i : Int) + (S p).size ≤ (s.size : Int) := by rw [zp]; omega
          have g4 : ((S p).size : Int) ≤ 4 := by rw [zp]; omega
          by_cases hq : q = []
          · have hz : Hid (firstP (rest s i) (symbolsL.take (k + 1)) = p) := by
              have hnx := HNX.out
              rw [hp, if_neg (by simp [hq]), if_pos rfl] at hnx
              exact hnx
            have c3 : decide ((S q).size < (S p).size) = true := by rw [zp, zq, hq]; simp; omega
            have HZP : Hid (Value.string (S p) = Value.string (S (firstP (rest s i) (symbolsL.take (k + 1))))) := by unfold Hid; rw [hz.out]
            generalize S p = t at *
            generalize S q = u at *
            clear hbl hpx zp zq hp1 hp4 h1 hp hext HNX hb4 hz hq
            go_wp2
            have s1 : IntKind.i64.wrap ((i : Int) + (t.size : Int)) = (i : Int) + (t.size : Int) := IntWalk.i64_in _ (by omega)
            have s2 : decide ((i : Int) + (t.size : Int) ≤ (s.size : Int)) = true := by simp; omega
            have s3 : (0 : Int) ≤ (i : Int) + (t.size : Int) := by omega
            have s4 : ((i : Int) + (t.size : Int)).toNat = i + t.size := by omega
            go_quiet (fail)
            clear s1 s2 s3 s4
            go_wp2
            go_roundw
            case rel => exact ⟨k + 1, by omega, by go_num, HZP.out, _, rfl⟩
            case measure => simp [intOf]; omega
          · have hz : Hid (firstP (rest s i) (symbolsL.take (k + 1)) = q) := by
              have hnx := HNX.out
              rw [if_pos hq] at hnx
              exact hnx
            have c3 : decide ((S q).size < (S p).size) = false := by
              have := hbl hq
              rw [zp, zq]; simp; omega
            have HZP : Hid (Value.string (S q) = Value.string (S (firstP (rest s i) (symbolsL.take (k + 1))))) := by unfold Hid; rw [hz.out]
            generalize S p = t at *
            generalize S q = u at *
            clear hbl hpx zp zq hp1 hp4 h1 hp hext HNX hb4 hz hq
            go_wp2
            have s1 : IntKind.i64.wrap ((i : Int) + (t.size : Int)) = (i : Int) + (t.size : Int) := IntWalk.i64_in _ (by omega)
            have s2 : decide ((i : Int) + (t.size : Int) ≤ (s.size : Int)) = true := by simp; omega
            have s3 : (0 : Int) ≤ (i : Int) + (t.size : Int) := by omega
            have s4 : ((i : Int) + (t.size : Int)).toNat = i + t.size := by omega
            go_quiet (fail)
            clear s1 s2 s3 s4
            go_wp2
            go_roundw
            case rel => exact ⟨k + 1, by omega, by go_num, HZP.out, _, rfl⟩
            case measure => simp [intOf]; omega
      · have hz : Hid (firstP (rest s i) (symbolsL.take (k + 1)) = q) := by
          have : p.isPrefixOf (rest s i) = false := by rw [hpx, decide_eq_false (by omega)]; rfl
          have hnx := HNX.out
          rw [this] at hnx
          unfold Hid
          rw [hnx]
          by_cases hq : q = []
          · rw [if_neg (by simp [hq]), if_neg (by decide), hq]
          · rw [if_pos hq]
        have HQ := Lib.hid zq
        have g1 : (s.size : Int) < (i : Int) + (S p).size := by rw [zp]; omega
        have g4 : ((S p).size : Int) ≤ 4 := by rw [zp]; omega
        generalize S p = t at *
        clear hbl hpx zp zq hp1 hp4 h1
        go_wp2
        have s1 : IntKind.i64.wrap ((i : Int) + (t.size : Int)) = (i : Int) + (t.size : Int) := IntWalk.i64_in _ (by omega)
        have s2 : decide ((i : Int) + (t.size : Int) ≤ (s.size : Int)) = false := by simp; omega
        go_quiet (fail)
        clear s1 s2
        go_wp2
        go_roundw
        case rel => exact ⟨k + 1, by omega, by go_num, by rw [hz.out], _, rfl⟩
        case measure => simp [intOf]; omega
    · obtain rfl : k = 59 := by omega
      have ht : symbolsL.take 59 = symbolsL := List.take_of_length_le (by rw [symbolsL_len]; omega)
      rw [ht]
      have hsy := symB_spec (rest s i)
      have hex := exc_spec s i
      have hB := below_drewN' HB0.out m
      generalize firstP (rest s i) symbolsL = q at *
      by_cases hq : q = [40, 124]
      · have c1 : ((S q).toList == [40, 124]) = true := by rw [ByteArray.toList_eq, S_toList, hq]; rfl
        rw [decide_eq_true hq, Bool.true_and] at hex
        have HQ := Lib.hid hq
        have HBB := Lib.hid hB
        have HSY := Lib.hid hsy
        have hqs : Hid (S q = ⟨#[40, 124]⟩) := by unfold Hid; rw [hq]
        by_cases h2 : i + 2 < s.size
        · rw [dif_pos h2] at hex
          have h2i : (i : Int) + 2 < (s.size : Int) := by omega
          have h3 : (s[i + 2].toNat = 126) ∨ (s[i + 2].toNat ≠ 126 ∧ s[i + 2].toNat = 124) ∨ (s[i + 2].toNat ≠ 126 ∧ s[i + 2].toNat ≠ 124) := by omega
          rcases h3 with h3 | ⟨h3, h4⟩ | ⟨h3, h4⟩
          · have g1 : ((s[i + 2].toNat : Int) == 126) = true := beq_iff_eq.2 (by omega)
            have HEX : Hid (excB (rest s i) = true) := by unfold Hid; rw [hex, h3]; rfl
            clear hex hsy hq hB h3
            generalize S q = u at *
            go_wp2
            go_ret
            exact ⟨ret_string (by rw [HSY.out, HEX.out]; rfl), HBB.out⟩
          · have g1 : ((s[i + 2].toNat : Int) == 126) = false := beq_eq_false_iff_ne.2 (by omega)
            have g2 : ((s[i + 2].toNat : Int) == 124) = true := beq_iff_eq.2 (by omega)
            have HEX : Hid (excB (rest s i) = true) := by unfold Hid; rw [hex, h4]; rfl
            clear hex hsy hq hB h3 h4
            generalize S q = u at *
            go_wp2
            go_ret
            exact ⟨ret_string (by rw [HSY.out, HEX.out]; rfl), HBB.out⟩
          · have g1 : ((s[i + 2].toNat : Int) == 126) = false := beq_eq_false_iff_ne.2 (by omega)
            have g2 : ((s[i + 2].toNat : Int) == 124) = false := beq_eq_false_iff_ne.2 (by omega)
            have HEX : Hid (excB (rest s i) = false) := by unfold Hid; rw [hex]; simp [h3, h4]
            have HU : Hid (S (symB (rest s i)) = S q) := by unfold Hid; rw [HSY.out, HEX.out]; rfl
            clear hex hsy hq hB h3 h4
            generalize S q = u at *
            go_wp2
            go_ret
            exact ⟨ret_string HU.out.symm, HBB.out⟩
        · rw [dif_neg h2] at hex
          have h2i : (s.size : Int) ≤ (i : Int) + 2 := by omega
          have HU : Hid (S (symB (rest s i)) = S q) := by unfold Hid; rw [HSY.out, hex]; rfl
          clear hex hsy hq hB
          generalize S q = u at *
          go_wp2
          go_ret
          exact ⟨ret_string HU.out.symm, HBB.out⟩
      · have c1 : ((S q).toList == [40, 124]) = false := by rw [ByteArray.toList_eq, S_toList]; exact beq_eq_false_iff_ne.2 hq
        rw [decide_eq_false hq, Bool.false_and] at hex
        have HBB := Lib.hid hB
        have HU : Hid (S (symB (rest s i)) = S q) := by unfold Hid; rw [hsy, hex]; rfl
        clear hex hsy hq hB
        generalize S q = u at *
        go_wp2
        go_ret
        exact ⟨ret_string HU.out.symm, HBB.out⟩

end Go.Proofs.YtoogbgmneabfnaaDoor
