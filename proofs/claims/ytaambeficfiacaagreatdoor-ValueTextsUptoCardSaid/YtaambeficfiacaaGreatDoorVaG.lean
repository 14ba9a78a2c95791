/- compoundEnd: where a value with parts ends. Condition: at most 1048576 bytes. -/
-- by tools/gen_ce.py
import Derived.Test.YtaambeficfiacaaGreatDoorVaF
namespace Go.Proofs.YtaambeficfiacaaGreatDoor
open Go.RowKit VM

def endL (o : Option (List UInt8)) (n : Nat) : Int := match o with
  | some r => ((n - r.length : Nat) : Int)
  | none => -1
theorem dec_comp (d : Nat) (k a b : UInt8) (r : List UInt8) (hc : isComp k = true) (N : Nat) :
    endD (dec (d + 1) (k :: a :: b :: r)) N = if countOK k (u16 a b) = true then endL (lp (ord d) (dec d) k (u16 a b) 0 none r) N else -1 := by
  have hk : k ≠ 1 ∧ k ≠ 2 ∧ k ≠ 10 := by
    unfold isComp at hc
    rw [decide_eq_true_eq] at hc
    refine ⟨?_, ?_, ?_⟩ <;> (rintro rfl; simp at hc)
  unfold dec
  rw [if_neg hk.1, if_neg hk.2.1, if_neg hk.2.2, if_pos hc]
  simp only
  rw [lp_all]
  cases h : decs (dec d) (u16 a b) r with
  | none => simp only; split <;> rfl
  | some q =>
    obtain ⟨l, r2⟩ := q
    simp only
    have hl : l.length = u16 a b := (decs_ok (p := wf d) (dec_ok d) _ _ _ _ h).2.1
    unfold parted
    rw [hl]
    cases countOK k (u16 a b) with
    | false => simp [endD]
    | true =>
      rw [Bool.true_and, if_pos rfl]
      split <;> rfl
def EndCon (d : Nat) : Prop := ∀ (s : ByteArray) (p : Nat) (w : World), s.size ≤ 1048576 → p ≤ 2097152 →
  Calls Tryz.prog 43 #[.string s, .int .i64 (p : Int), .int .i64 (d : Int)] w fun e w' => e = .returned (.int .i64 (endD (dec d ((bs s).drop p)) s.size)) ∧ Below w.heap.size w w'
def lastB : Option V → List UInt8
  | none => []
  | some u => enc u
theorem bs_window (s : ByteArray) (a b : Nat) : bs (s.extract a b) = ((bs s).drop a).take (b - a) := Go.Lib.extract_data s a b
theorem isE_of {s : ByteArray} (h : bs s = []) : s.toList.isEmpty = true := by
  rw [ByteArray.toList_eq]
  show (bs s).isEmpty = true
  rw [h]; rfl
theorem isE_not {s : ByteArray} (h : bs s ≠ []) : s.toList.isEmpty = false := by
  rw [ByteArray.toList_eq]
  show (bs s).isEmpty = false
  cases hb : bs s with
  | nil => exact absurd hb h
  | cons => rfl
theorem lp_step {f : V → V → Int} {rd : List UInt8 → Option (V × List UInt8)} {k : UInt8} {n i : Nat} {last : Option V} {s : List UInt8} {v : V} {r : List UInt8} (h : rd s = some (v, r)) :
    lp f rd k (n + 1) i last s = if (i = 0 ∧ headOK k v = false) then none else if cmpAt k i = true then (if okAfter f last v = true then lp f rd k n (i + 1) (some v) r else none) else lp f rd k n (i + 1) last r := by
  conv => lhs; unfold lp
  rw [h]
theorem lp_none {f : V → V → Int} {rd : List UInt8 → Option (V × List UInt8)} {k : UInt8} {n i : Nat} {last : Option V} {s : List UInt8} (h : rd s = none) : lp f rd k (n + 1) i last s = none := by
  conv => lhs; unfold lp
  rw [h]

set_option linter.unusedSimpArgs false in
set_option maxRecDepth 100000 in
set_option maxHeartbeats 12800000 in
theorem ce_any (d : Nat) (ih : EndCon d) (hd : d ≤ 1000) (s : ByteArray) (p : Nat) (k a b : UInt8) (r : List UInt8) (h : (bs s).drop p = k :: a :: b :: r) (hc : isComp k = true) (hb : s.size ≤ 1048576) (w : World) :
    Calls Tryz.prog 63 #[.string s, .int .i64 (p : Int), .int .i64 ((d + 1 : Nat) : Int)] w fun e w' => e = .returned (.int .i64 (endD (dec (d + 1) (k :: a :: b :: r)) s.size)) ∧ Below w.heap.size w w' := by
  obtain ⟨h1, h2, h3, h4⟩ := drop_of h
  rw [dec_comp d k a b r hc s.size]
  have HIH := Lib.hid ih
  have hp3 : p + 3 ≤ s.size := by simp at h2; omega
  have e1 : s[p]'h1 = k := by rw [bs_get s p h1] at h3; exact Option.some.inj h3
  have hz : (s.extract p s.size).size ≤ 1048576 ∧ 3 ≤ (s.extract p s.size).size := by
    have := congrArg List.length (bs_extract s p)
    rw [bs_size, List.length_drop, bs_size] at this
    omega
  have HC := Lib.hid (fun w => count_any (s.extract p s.size) a b hz.2 (by rw [bs_extract, h]; rfl) (by rw [bs_extract, h]; rfl) w)
  have hn := u16_lt a b
  have hd3 : (bs s).drop (p + 3) = r := by rw [← List.drop_drop, h]; rfl
  generalize u16 a b = n at *
  have HK := Lib.hid (fun w => countOK_any k n hn w)
  have wk : wrap64 (k.toNat : Int) = (k.toNat : Int) := IntWalk.wrap64_in _ (by have := k.toNat_lt; omega)
  have HD3 := Lib.hid hd3
  have HISC := Lib.hid hc
  clear ih h h2 h3 h4 hd3 hz hc
  cases hco : countOK k n
  · rw [if_neg (by simp)]
    rw [hco] at HK
    clear hco
    go_enter Tryz.func63, Tryz.ntmps63
    go_wp2_with fail
    have HBd : Hid (Below w.heap.size w w.drew) := below_drew (Below.refl _ _)
    refine wp_region_noPanic ?_
    refine wp_region_held_drew (S := fun W => True) (by kernel_rfl) trivial (fun _ => ?_)
    generalize w.drew = wd at *
    try simp only [Act.put, List.setIfInBounds_toArray, List.set_cons_zero, List.set_cons_succ]
    refine wpAnyH_take (i := 0) (oi := { dst := some 13, op := Op.move (Operand.tmp 0), type := 22, pos := "encoding.go:117", after := #[], guard := none }) (v := ?_) rfl (by kernel_rfl) (by kernel_rfl) (by kernel_rfl) (fun _ _ _ h => h) (Or.inl ⟨by rfl, ?_⟩) trivial ?_
    rotate_left 1
    · intro w hSw
      try dsimp only at hSw
      go_simp
      first
        | done
        | with_reducible rfl
        | rw [if_neg (by omega)]
    try simp only [Act.put, List.setIfInBounds_toArray, List.set_cons_zero, List.set_cons_succ]
    refine wpAnyH_take (i := 1) (oi := { dst := some 14, op := Op.move (Operand.tmp 1), type := 3, pos := "encoding.go:117", after := #[], guard := none }) (v := ?_) rfl (by kernel_rfl) (by kernel_rfl) (by kernel_rfl) (fun _ _ _ h => h) (Or.inl ⟨by rfl, ?_⟩) trivial ?_
    rotate_left 1
    · intro w hSw
      try dsimp only at hSw
      go_simp
      first
        | done
        | with_reducible rfl
        | rw [if_neg (by omega)]
    try simp only [Act.put, List.setIfInBounds_toArray, List.set_cons_zero, List.set_cons_succ]
    refine wpAnyH_take (i := 2) (oi := { dst := some 15, op := Op.index 22 (Operand.tmp 13) (Operand.tmp 14), type := 5, pos := "encoding.go:117", after := #[{ on := 0, ground := Ground.data }, { on := 1, ground := Ground.data }], guard := none }) (v := ?_) rfl (by kernel_rfl) (by kernel_rfl) (by kernel_rfl) (fun _ _ _ h => h) (Or.inl ⟨by rfl, ?_⟩) trivial ?_
    rotate_left 1
    · intro w hSw
      try dsimp only at hSw
      go_simp
      first
        | done
        | with_reducible rfl
        | rw [if_neg (by omega)]
    try simp only [Act.put, List.setIfInBounds_toArray, List.set_cons_zero, List.set_cons_succ]
    refine wpAnyH_take (i := 3) (oi := { dst := some 16, op := Op.convert 5 3 (Operand.tmp 15), type := 3, pos := "encoding.go:117", after := #[{ on := 2, ground := Ground.data }], guard := none }) (v := .int .i64 (k.toNat : Int)) rfl (by kernel_rfl) (by kernel_rfl) (by kernel_rfl) (fun _ _ _ h => h) (Or.inl ⟨by rfl, ?_⟩) trivial ?_
    · intro w hSw
      go_simp
      exact IntWalk.i64_in _ (by have := k.toNat_lt; omega)
    try simp only [Act.put, List.setIfInBounds_toArray, List.set_cons_zero, List.set_cons_succ]
    refine wpAnyH_take (i := 4) (oi := { dst := some 17, op := Op.move (Operand.tmp 0), type := 22, pos := "encoding.go:117", after := #[], guard := none }) (v := ?_) rfl (by kernel_rfl) (by kernel_rfl) (by kernel_rfl) (fun _ _ _ h => h) (Or.inl ⟨by rfl, ?_⟩) trivial ?_
    rotate_left 1
    · intro w hSw
      try dsimp only at hSw
      go_simp
      first
        | done
        | with_reducible rfl
        | rw [if_neg (by omega)]
    try simp only [Act.put, List.setIfInBounds_toArray, List.set_cons_zero, List.set_cons_succ]
    refine wpAnyH_take (i := 5) (oi := { dst := some 18, op := Op.move (Operand.tmp 1), type := 3, pos := "encoding.go:117", after := #[], guard := none }) (v := ?_) rfl (by kernel_rfl) (by kernel_rfl) (by kernel_rfl) (fun _ _ _ h => h) (Or.inl ⟨by rfl, ?_⟩) trivial ?_
    rotate_left 1
    · intro w hSw
      try dsimp only at hSw
      go_simp
      first
        | done
        | with_reducible rfl
        | rw [if_neg (by omega)]
    try simp only [Act.put, List.setIfInBounds_toArray, List.set_cons_zero, List.set_cons_succ]
    refine wpAnyH_take (i := 6) (oi := { dst := some 19, op := Op.slice 22 (Operand.tmp 17) (some (Operand.tmp 18)) none none, type := 22, pos := "encoding.go:117", after := #[{ on := 4, ground := Ground.data }, { on := 5, ground := Ground.data }], guard := none }) (v := .string (s.extract p s.size)) rfl (by kernel_rfl) (by kernel_rfl) (by kernel_rfl) (fun _ _ _ h => h) (Or.inl ⟨by rfl, ?_⟩) trivial ?_
    · intro w hSw
      go_simp
      first | done | (intro hc; omega) | rw [if_pos (by omega)]
    try simp only [Act.put, List.setIfInBounds_toArray, List.set_cons_zero, List.set_cons_succ]
    refine wpAnyH_ready (rs := [7]) (by kernel_rfl) (by simp) ?_
    refine AllReadyH.cons (o := { dst := some 20, op := Op.call { callee := Callee.value (Operand.func 42), args := #[Operand.tmp 19], argTypes := #[22] }, type := 3, pos := "encoding.go:117", after := #[{ on := 6, ground := Ground.data }], guard := none }) rfl (fun K hK => ?_) AllReadyH.nil
    go_simp
    go_at_call 42
    refine (HC.out wd).mono ?_
    rintro e w501 ⟨rfl, q1, rfl⟩
    have HB1 := hide (below_drewN (unhide HBd) q1)
    try dsimp only
    refine hK.out _ _ trivial (fun _ => ?_)
    clear hK K
    try simp only [Act.put, List.setIfInBounds_toArray, List.set_cons_zero, List.set_cons_succ]
    refine wpAnyH_take (i := 8) (oi := { dst := some 7, op := Op.assign (Operand.tmp 16), type := 3, pos := "encoding.go:117", after := #[{ on := 3, ground := Ground.data }, { on := 7, ground := Ground.chain }, { on := 0, ground := Ground.phase }, { on := 1, ground := Ground.phase }, { on := 2, ground := Ground.phase }, { on := 3, ground := Ground.phase }, { on := 4, ground := Ground.textOnly Departure.lateStores }, { on := 5, ground := Ground.textOnly Departure.lateStores }, { on := 6, ground := Ground.textOnly Departure.lateStoresUnsure }, { on := 7, ground := Ground.textOnly Departure.lateStoresUnsure }], guard := none }) (v := ?_) rfl (by kernel_rfl) (by kernel_rfl) (by kernel_rfl) (fun _ _ _ h => h) (Or.inl ⟨by rfl, ?_⟩) trivial ?_
    rotate_left 1
    · intro w hSw
      try dsimp only at hSw
      go_simp
      first
        | done
        | with_reducible rfl
        | rw [if_neg (by omega)]
    try simp only [Act.put, List.setIfInBounds_toArray, List.set_cons_zero, List.set_cons_succ]
    refine wpAnyH_take (i := 9) (oi := { dst := some 8, op := Op.assign (Operand.tmp 20), type := 3, pos := "encoding.go:117", after := #[{ on := 7, ground := Ground.data }, { on := 8, ground := Ground.chain }, { on := 0, ground := Ground.phase }, { on := 1, ground := Ground.phase }, { on := 2, ground := Ground.phase }, { on := 3, ground := Ground.phase }, { on := 4, ground := Ground.phase }, { on := 5, ground := Ground.phase }, { on := 6, ground := Ground.phase }, { on := 7, ground := Ground.phase }, { on := 8, ground := Ground.phase }], guard := none }) (v := ?_) rfl (by kernel_rfl) (by kernel_rfl) (by kernel_rfl) (fun _ _ _ h => h) (Or.inl ⟨by rfl, ?_⟩) trivial ?_
    rotate_left 1
    · intro w hSw
      try dsimp only at hSw
      go_simp
      first
        | done
        | with_reducible rfl
        | rw [if_neg (by omega)]
    try simp only [Act.put, List.setIfInBounds_toArray, List.set_cons_zero, List.set_cons_succ]
    refine wpAnyH_done (by kernel_rfl) ?_ _
    refine NoPanic.normal ?_
    generalize wd.drewN q1 = w1 at *
    clear HBd
    go_wp2_with fail
    refine (HK.out _).mono ?_
    rintro e w2 ⟨rfl, rfl⟩
    go_wp2_with fail
    go_ret
    exact ⟨rfl, unhide HB1⟩
  rw [if_pos rfl]
  rw [hco] at HK
  clear hco
  go_enter Tryz.func63, Tryz.ntmps63
  go_wp2_with fail
  have HBd : Hid (Below w.heap.size w w.drew) := below_drew (Below.refl _ _)
  refine wp_region_noPanic ?_
  refine wp_region_held_drew (S := fun W => True) (by kernel_rfl) trivial (fun _ => ?_)
  generalize w.drew = wd at *
  try simp only [Act.put, List.setIfInBounds_toArray, List.set_cons_zero, List.set_cons_succ]
  refine wpAnyH_take (i := 0) (oi := { dst := some 13, op := Op.move (Operand.tmp 0), type := 22, pos := "encoding.go:117", after := #[], guard := none }) (v := ?_) rfl (by kernel_rfl) (by kernel_rfl) (by kernel_rfl) (fun _ _ _ h => h) (Or.inl ⟨by rfl, ?_⟩) trivial ?_
  rotate_left 1
  · intro w hSw
    try dsimp only at hSw
    go_simp
    first
      | done
      | with_reducible rfl
      | rw [if_neg (by omega)]
  try simp only [Act.put, List.setIfInBounds_toArray, List.set_cons_zero, List.set_cons_succ]
  refine wpAnyH_take (i := 1) (oi := { dst := some 14, op := Op.move (Operand.tmp 1), type := 3, pos := "encoding.go:117", after := #[], guard := none }) (v := ?_) rfl (by kernel_rfl) (by kernel_rfl) (by kernel_rfl) (fun _ _ _ h => h) (Or.inl ⟨by rfl, ?_⟩) trivial ?_
  rotate_left 1
  · intro w hSw
    try dsimp only at hSw
    go_simp
    first
      | done
      | with_reducible rfl
      | rw [if_neg (by omega)]
  try simp only [Act.put, List.setIfInBounds_toArray, List.set_cons_zero, List.set_cons_succ]
  refine wpAnyH_take (i := 2) (oi := { dst := some 15, op := Op.index 22 (Operand.tmp 13) (Operand.tmp 14), type := 5, pos := "encoding.go:117", after := #[{ on := 0, ground := Ground.data }, { on := 1, ground := Ground.data }], guard := none }) (v := ?_) rfl (by kernel_rfl) (by kernel_rfl) (by kernel_rfl) (fun _ _ _ h => h) (Or.inl ⟨by rfl, ?_⟩) trivial ?_
  rotate_left 1
  · intro w hSw
    try dsimp only at hSw
    go_simp
    first
      | done
      | with_reducible rfl
      | rw [if_neg (by omega)]
  try simp only [Act.put, List.setIfInBounds_toArray, List.set_cons_zero, List.set_cons_succ]
  refine wpAnyH_take (i := 3) (oi := { dst := some 16, op := Op.convert 5 3 (Operand.tmp 15), type := 3, pos := "encoding.go:117", after := #[{ on := 2, ground := Ground.data }], guard := none }) (v := .int .i64 (k.toNat : Int)) rfl (by kernel_rfl) (by kernel_rfl) (by kernel_rfl) (fun _ _ _ h => h) (Or.inl ⟨by rfl, ?_⟩) trivial ?_
  · intro w hSw
    go_simp
    exact IntWalk.i64_in _ (by have := k.toNat_lt; omega)
  try simp only [Act.put, List.setIfInBounds_toArray, List.set_cons_zero, List.set_cons_succ]
  refine wpAnyH_take (i := 4) (oi := { dst := some 17, op := Op.move (Operand.tmp 0), type := 22, pos := "encoding.go:117", after := #[], guard := none }) (v := ?_) rfl (by kernel_rfl) (by kernel_rfl) (by kernel_rfl) (fun _ _ _ h => h) (Or.inl ⟨by rfl, ?_⟩) trivial ?_
  rotate_left 1
  · intro w hSw
    try dsimp only at hSw
    go_simp
    first
      | done
      | with_reducible rfl
      | rw [if_neg (by omega)]
  try simp only [Act.put, List.setIfInBounds_toArray, List.set_cons_zero, List.set_cons_succ]
  refine wpAnyH_take (i := 5) (oi := { dst := some 18, op := Op.move (Operand.tmp 1), type := 3, pos := "encoding.go:117", after := #[], guard := none }) (v := ?_) rfl (by kernel_rfl) (by kernel_rfl) (by kernel_rfl) (fun _ _ _ h => h) (Or.inl ⟨by rfl, ?_⟩) trivial ?_
  rotate_left 1
  · intro w hSw
    try dsimp only at hSw
    go_simp
    first
      | done
      | with_reducible rfl
      | rw [if_neg (by omega)]
  try simp only [Act.put, List.setIfInBounds_toArray, List.set_cons_zero, List.set_cons_succ]
  refine wpAnyH_take (i := 6) (oi := { dst := some 19, op := Op.slice 22 (Operand.tmp 17) (some (Operand.tmp 18)) none none, type := 22, pos := "encoding.go:117", after := #[{ on := 4, ground := Ground.data }, { on := 5, ground := Ground.data }], guard := none }) (v := .string (s.extract p s.size)) rfl (by kernel_rfl) (by kernel_rfl) (by kernel_rfl) (fun _ _ _ h => h) (Or.inl ⟨by rfl, ?_⟩) trivial ?_
  · intro w hSw
    go_simp
    first | done | (intro hc; omega) | rw [if_pos (by omega)]
  try simp only [Act.put, List.setIfInBounds_toArray, List.set_cons_zero, List.set_cons_succ]
  refine wpAnyH_ready (rs := [7]) (by kernel_rfl) (by simp) ?_
  refine AllReadyH.cons (o := { dst := some 20, op := Op.call { callee := Callee.value (Operand.func 42), args := #[Operand.tmp 19], argTypes := #[22] }, type := 3, pos := "encoding.go:117", after := #[{ on := 6, ground := Ground.data }], guard := none }) rfl (fun K hK => ?_) AllReadyH.nil
  go_simp
  go_at_call 42
  refine (HC.out wd).mono ?_
  rintro e w502 ⟨rfl, q1, rfl⟩
  have HB1 := hide (below_drewN (unhide HBd) q1)
  try dsimp only
  refine hK.out _ _ trivial (fun _ => ?_)
  clear hK K
  try simp only [Act.put, List.setIfInBounds_toArray, List.set_cons_zero, List.set_cons_succ]
  refine wpAnyH_take (i := 8) (oi := { dst := some 7, op := Op.assign (Operand.tmp 16), type := 3, pos := "encoding.go:117", after := #[{ on := 3, ground := Ground.data }, { on := 7, ground := Ground.chain }, { on := 0, ground := Ground.phase }, { on := 1, ground := Ground.phase }, { on := 2, ground := Ground.phase }, { on := 3, ground := Ground.phase }, { on := 4, ground := Ground.textOnly Departure.lateStores }, { on := 5, ground := Ground.textOnly Departure.lateStores }, { on := 6, ground := Ground.textOnly Departure.lateStoresUnsure }, { on := 7, ground := Ground.textOnly Departure.lateStoresUnsure }], guard := none }) (v := ?_) rfl (by kernel_rfl) (by kernel_rfl) (by kernel_rfl) (fun _ _ _ h => h) (Or.inl ⟨by rfl, ?_⟩) trivial ?_
  rotate_left 1
  · intro w hSw
    try dsimp only at hSw
    go_simp
    first
      | done
      | with_reducible rfl
      | rw [if_neg (by omega)]
  try simp only [Act.put, List.setIfInBounds_toArray, List.set_cons_zero, List.set_cons_succ]
  refine wpAnyH_take (i := 9) (oi := { dst := some 8, op := Op.assign (Operand.tmp 20), type := 3, pos := "encoding.go:117", after := #[{ on := 7, ground := Ground.data }, { on := 8, ground := Ground.chain }, { on := 0, ground := Ground.phase }, { on := 1, ground := Ground.phase }, { on := 2, ground := Ground.phase }, { on := 3, ground := Ground.phase }, { on := 4, ground := Ground.phase }, { on := 5, ground := Ground.phase }, { on := 6, ground := Ground.phase }, { on := 7, ground := Ground.phase }, { on := 8, ground := Ground.phase }], guard := none }) (v := ?_) rfl (by kernel_rfl) (by kernel_rfl) (by kernel_rfl) (fun _ _ _ h => h) (Or.inl ⟨by rfl, ?_⟩) trivial ?_
  rotate_left 1
  · intro w hSw
    try dsimp only at hSw
    go_simp
    first
      | done
      | with_reducible rfl
      | rw [if_neg (by omega)]
  try simp only [Act.put, List.setIfInBounds_toArray, List.set_cons_zero, List.set_cons_succ]
  refine wpAnyH_done (by kernel_rfl) ?_ _
  refine NoPanic.normal ?_
  generalize wd.drewN q1 = w1 at *
  clear HBd
  go_wp2_with fail
  refine (HK.out _).mono ?_
  rintro e w2 ⟨rfl, rfl⟩
  go_wp2_with fail
  clear HK HC
  go_loopw [1, 9, 28] (fun av lv iv wr => ∃ (i q : Nat) (last : Option V) (lb : ByteArray), iv = .int .i64 i ∧ av = .int .i64 q ∧ lv = .string lb ∧ i ≤ n ∧ q ≤ s.size ∧ lb.size ≤ 1048576 ∧ Hid (bs lb = lastB last) ∧ Hid (∀ u, last = some u → wf d u = true) ∧ Hid (lp (ord d) (dec d) k n 0 none r = lp (ord d) (dec d) k (n - i) i last ((bs s).drop q)) ∧ Hid (Below w.heap.size w wr)) (fun _ _ iv _ => n - (intOf iv).toNat)
  case atStart => exact ⟨0, p + 3, none, ⟨#[]⟩, rfl, by go_num, rfl, by omega, by omega, by decide, rfl, (fun u q => (by cases q)), (by rw [HD3.out]; rfl), unhide HB1⟩
  case round =>
    obtain ⟨i, q, last, lb, rfl, rfl, rfl, hi, hq, hlb, hL, hW, hP, hB⟩ := hrel
    by_cases hil : i < n
    · have hni : n - i = (n - (i + 1)) + 1 := by omega
      have HE := Lib.hid (fun w => HIH.out s q w hb (by omega))
      have hP1 := hP.out
      rw [hni] at hP1
      cases hdec : dec d ((bs s).drop q) with
      | none =>
        rw [lp_none hdec] at hP1
        rw [hdec] at HE
        have HPN := Lib.hid hP1
        clear hP hP1 hdec
        go_wp2_with fail
        refine (HE.out _).mono ?_
        rintro e w3 ⟨rfl, hb3⟩
        have HB3 := hide (hB.out.trans (hb3.mono hB.out.size))
        clear hb3
        go_wp2_with fail
        go_ret
        exact ⟨by rw [HPN.out]; rfl, unhide HB3⟩
      | some z =>
        obtain ⟨v, rr⟩ := z
        obtain ⟨g1, g2⟩ := dec_ok d _ _ _ hdec
        rw [lp_step hdec] at hP1
        rw [hdec] at HE
        have hv0 := enc_pos v g2
        have hlen := congrArg List.length g1
        rw [List.length_drop, bs_size, List.length_append] at hlen
        obtain ⟨st, hst⟩ : ∃ st, st = s.size - rr.length := ⟨_, rfl⟩
        have hst1 : q < st := by omega
        have hst2 : st ≤ s.size := by omega
        have hE2 : endD (some (v, rr)) s.size = (st : Int) := by rw [hst]; rfl
        rw [hE2] at HE
        have HPT : Hid (bs (s.extract q st) = enc v) := Lib.hid (by
          rw [bs_window, g1]
          exact List.take_left' (by omega))
        have HDR : Hid ((bs s).drop st = rr) := Lib.hid (by
          rw [show st = q + (enc v).length by omega, ← List.drop_drop, g1, List.drop_left])
        have hpz : (s.extract q st).size ≤ 1048576 := by rw [← bs_size, HPT.out]; omega
        have HWV := Lib.hid g2
        have HP1 := Lib.hid hP1
        have HHD := Lib.hid (fun w => headOK_any k d (s.extract q st) v g2 HPT.out hpz w)
        have HVP : Hid (0 < (enc v).length) := Lib.hid hv0
        clear hP hP1 hdec g1 g2 hlen hst hE2 hv0
        go_wp2_with fail
        refine (HE.out _).mono ?_
        rintro e w3 ⟨rfl, hb3⟩
        have HB3 := hide (hB.out.trans (hb3.mono hB.out.size))
        have gst : ((st : Int) == -1) = false := beq_eq_false_iff_ne.2 (by omega)
        clear hb3 HE hB
        by_cases h0 : i = 0
        · subst h0
          cases hho : headOK k v
          · have HP4 : Hid (lp (ord d) (dec d) k n 0 none r = none) := Lib.hid (by rw [HP1.out, if_pos ⟨rfl, hho⟩])
            rw [hho] at HHD
            go_wp2_with fail
            refine (HHD.out _).mono ?_
            rintro e w4 ⟨rfl, rfl⟩
            go_wp2_with fail
            go_ret
            exact ⟨by rw [HP4.out]; rfl, unhide HB3⟩
          have HNH : Hid (¬ (0 = 0 ∧ headOK k v = false)) := Lib.hid (fun z => by rw [hho] at z; cases z.2)
          rw [hho] at HHD
          go_wp2_with fail
          refine (HHD.out _).mono ?_
          rintro e w4 ⟨rfl, rfl⟩
          clear HHD hho
          have HP2 : Hid (lp (ord d) (dec d) k n 0 none r = if cmpAt k 0 = true then (if okAfter (ord d) last v = true then lp (ord d) (dec d) k (n - (0 + 1)) (0 + 1) (some v) rr else none) else lp (ord d) (dec d) k (n - (0 + 1)) (0 + 1) last rr) := Lib.hid (by rw [HP1.out, if_neg HNH.out])
          by_cases hc : cmpAt k 0 = true
          · have HP3 : Hid (lp (ord d) (dec d) k n 0 none r = if okAfter (ord d) last v = true then lp (ord d) (dec d) k (n - (0 + 1)) (0 + 1) (some v) rr else none) := Lib.hid (by rw [HP2.out, if_pos hc])
            have hkk : ((k.toNat : Int) == 5) = true ∨ (((k.toNat : Int) == 5) = false ∧ ((k.toNat : Int) == 6) = true ∧ ((((0 : Nat) : Int)) % 2 == 0) = true) := by
              unfold cmpAt at hc
              by_cases h5 : k = 5
              · left; rw [h5]; rfl
              · right
                have h6 : k = 6 ∧ 0 % 2 = 0 := by simpa [h5] using hc
                refine ⟨u8_ne h5, by rw [h6.1]; rfl, ?_⟩
                rw [beq_iff_eq]; omega
            clear HP2 hc
            cases last with
            | none =>
              have hem := isE_of hL.out
              have HP4 : Hid (lp (ord d) (dec d) k n 0 none r = lp (ord d) (dec d) k (n - (0 + 1)) (0 + 1) (some v) ((bs s).drop st)) := Lib.hid (by rw [HP3.out, HDR.out]; rfl)
              rcases hkk with g5 | ⟨g5, g6, g7⟩
              all_goals
                go_wp2_with fail
                go_roundw
                case rel => exact ⟨0 + 1, st, some v, s.extract q st, by go_num, rfl, rfl, by omega, hst2, hpz, HPT.out, fun u q => by cases q; exact HWV.out, HP4.out, unhide HB3⟩
                case measure => simp [intOf]; omega
            | some u =>
              have hwu := hW.out u rfl
              have hem := isE_not (s := lb) (by rw [hL.out]; intro z; have := enc_pos u hwu; rw [show lastB (some u) = enc u from rfl] at z; rw [z] at this; exact absurd this (by simp))
              have HCV := Lib.hid (fun w => cmpV_any d lb (s.extract q st) u v hwu HWV.out hL.out HPT.out hlb hpz w)
              by_cases ho : ord d u v < 0
              · have HP4 : Hid (lp (ord d) (dec d) k n 0 none r = lp (ord d) (dec d) k (n - (0 + 1)) (0 + 1) (some v) ((bs s).drop st)) := Lib.hid (by rw [HP3.out, HDR.out, if_pos (by unfold okAfter; exact decide_eq_true ho)])
                have go1 : decide ((0 : Int) ≤ ord d u v) = false := decide_eq_false (by omega)
                have ho2 : ¬ (0 ≤ ord d u v) := by omega
                clear HP3
                rcases hkk with g5 | ⟨g5, g6, g7⟩
                all_goals
                  go_wp2_with fail
                  refine (HCV.out _).mono ?_
                  rintro e w5 ⟨rfl, hb5⟩
                  have HB5 := hide ((unhide HB3).trans (hb5.mono (unhide HB3).size))
                  clear hb5
                  go_wp2_with fail
                  go_roundw
                  case rel => exact ⟨0 + 1, st, some v, s.extract q st, by go_num, rfl, rfl, by omega, hst2, hpz, HPT.out, fun u q => by cases q; exact HWV.out, HP4.out, unhide HB5⟩
                  case measure => simp [intOf]; omega
              · have HP4 : Hid (lp (ord d) (dec d) k n 0 none r = none) := Lib.hid (by rw [HP3.out, if_neg (by unfold okAfter; simpa using ho)])
                have go1 : decide ((0 : Int) ≤ ord d u v) = true := decide_eq_true (by omega)
                have ho2 : 0 ≤ ord d u v := by omega
                clear HP3 ho
                rcases hkk with g5 | ⟨g5, g6, g7⟩
                all_goals
                  go_wp2_with fail
                  refine (HCV.out _).mono ?_
                  rintro e w5 ⟨rfl, hb5⟩
                  have HB5 := hide ((unhide HB3).trans (hb5.mono (unhide HB3).size))
                  clear hb5
                  go_wp2_with fail
                  go_ret
                  exact ⟨by rw [HP4.out]; rfl, unhide HB5⟩
          · have HP4 : Hid (lp (ord d) (dec d) k n 0 none r = lp (ord d) (dec d) k (n - (0 + 1)) (0 + 1) last ((bs s).drop st)) := Lib.hid (by rw [HP2.out, if_neg hc, HDR.out])
            have g5 : ((k.toNat : Int) == 5) = false := u8_ne (c := 5) (fun z => hc (by rw [z]; rfl))
            have hkk : ((k.toNat : Int) == 6) = false ∨ (((k.toNat : Int) == 6) = true ∧ ((((0 : Nat) : Int)) % 2 == 0) = false) := by
              by_cases h6 : k = 6
              · right
                refine ⟨by rw [h6]; rfl, beq_eq_false_iff_ne.2 fun z => hc ?_⟩
                rw [h6]; unfold cmpAt; simp <;> omega
              · exact .inl (u8_ne h6)
            clear HP2 hc
            rcases hkk with g6 | ⟨g6, g7⟩
            · go_wp2_with fail
              go_roundw
              case rel => exact ⟨0 + 1, st, last, lb, by go_num, rfl, rfl, by omega, hst2, hlb, hL.out, hW.out, HP4.out, unhide HB3⟩
              case measure => simp [intOf]; omega
            · exact absurd g7 (by decide)
        · have g0 : ((i : Int) == 0) = false := beq_eq_false_iff_ne.2 (by omega)
          have HNH : Hid (¬ (i = 0 ∧ headOK k v = false)) := Lib.hid (fun z => h0 z.1)
          clear HHD
          have HP2 : Hid (lp (ord d) (dec d) k n 0 none r = if cmpAt k i = true then (if okAfter (ord d) last v = true then lp (ord d) (dec d) k (n - (i + 1)) (i + 1) (some v) rr else none) else lp (ord d) (dec d) k (n - (i + 1)) (i + 1) last rr) := Lib.hid (by rw [HP1.out, if_neg HNH.out])
          by_cases hc : cmpAt k i = true
          · have HP3 : Hid (lp (ord d) (dec d) k n 0 none r = if okAfter (ord d) last v = true then lp (ord d) (dec d) k (n - (i + 1)) (i + 1) (some v) rr else none) := Lib.hid (by rw [HP2.out, if_pos hc])
            have hkk : ((k.toNat : Int) == 5) = true ∨ (((k.toNat : Int) == 5) = false ∧ ((k.toNat : Int) == 6) = true ∧ ((i : Int) % 2 == 0) = true) := by
              unfold cmpAt at hc
              by_cases h5 : k = 5
              · left; rw [h5]; rfl
              · right
                have h6 : k = 6 ∧ i % 2 = 0 := by simpa [h5] using hc
                refine ⟨u8_ne h5, by rw [h6.1]; rfl, ?_⟩
                rw [beq_iff_eq]; omega
            clear HP2 hc
            cases last with
            | none =>
              have hem := isE_of hL.out
              have HP4 : Hid (lp (ord d) (dec d) k n 0 none r = lp (ord d) (dec d) k (n - (i + 1)) (i + 1) (some v) ((bs s).drop st)) := Lib.hid (by rw [HP3.out, HDR.out]; rfl)
              rcases hkk with g5 | ⟨g5, g6, g7⟩
              all_goals
                go_wp2_with fail
                go_roundw
                case rel => exact ⟨i + 1, st, some v, s.extract q st, by go_num, rfl, rfl, by omega, hst2, hpz, HPT.out, fun u q => by cases q; exact HWV.out, HP4.out, unhide HB3⟩
                case measure => simp [intOf]; omega
            | some u =>
              have hwu := hW.out u rfl
              have hem := isE_not (s := lb) (by rw [hL.out]; intro z; have := enc_pos u hwu; rw [show lastB (some u) = enc u from rfl] at z; rw [z] at this; exact absurd this (by simp))
              have HCV := Lib.hid (fun w => cmpV_any d lb (s.extract q st) u v hwu HWV.out hL.out HPT.out hlb hpz w)
              by_cases ho : ord d u v < 0
              · have HP4 : Hid (lp (ord d) (dec d) k n 0 none r = lp (ord d) (dec d) k (n - (i + 1)) (i + 1) (some v) ((bs s).drop st)) := Lib.hid (by rw [HP3.out, HDR.out, if_pos (by unfold okAfter; exact decide_eq_true ho)])
                have go1 : decide ((0 : Int) ≤ ord d u v) = false := decide_eq_false (by omega)
                have ho2 : ¬ (0 ≤ ord d u v) := by omega
                clear HP3
                rcases hkk with g5 | ⟨g5, g6, g7⟩
                all_goals
                  go_wp2_with fail
                  refine (HCV.out _).mono ?_
                  rintro e w5 ⟨rfl, hb5⟩
                  have HB5 := hide ((unhide HB3).trans (hb5.mono (unhide HB3).size))
                  clear hb5
                  go_wp2_with fail
                  go_roundw
                  case rel => exact ⟨i + 1, st, some v, s.extract q st, by go_num, rfl, rfl, by omega, hst2, hpz, HPT.out, fun u q => by cases q; exact HWV.out, HP4.out, unhide HB5⟩
                  case measure => simp [intOf]; omega
              · have HP4 : Hid (lp (ord d) (dec d) k n 0 none r = none) := Lib.hid (by rw [HP3.out, if_neg (by unfold okAfter; simpa using ho)])
                have go1 : decide ((0 : Int) ≤ ord d u v) = true := decide_eq_true (by omega)
                have ho2 : 0 ≤ ord d u v := by omega
                clear HP3 ho
                rcases hkk with g5 | ⟨g5, g6, g7⟩
                all_goals
                  go_wp2_with fail
                  refine (HCV.out _).mono ?_
                  rintro e w5 ⟨rfl, hb5⟩
                  have HB5 := hide ((unhide HB3).trans (hb5.mono (unhide HB3).size))
                  clear hb5
                  go_wp2_with fail
                  go_ret
                  exact ⟨by rw [HP4.out]; rfl, unhide HB5⟩
          · have HP4 : Hid (lp (ord d) (dec d) k n 0 none r = lp (ord d) (dec d) k (n - (i + 1)) (i + 1) last ((bs s).drop st)) := Lib.hid (by rw [HP2.out, if_neg hc, HDR.out])
            have g5 : ((k.toNat : Int) == 5) = false := u8_ne (c := 5) (fun z => hc (by rw [z]; rfl))
            have hkk : ((k.toNat : Int) == 6) = false ∨ (((k.toNat : Int) == 6) = true ∧ ((i : Int) % 2 == 0) = false) := by
              by_cases h6 : k = 6
              · right
                refine ⟨by rw [h6]; rfl, beq_eq_false_iff_ne.2 fun z => hc ?_⟩
                rw [h6]; unfold cmpAt; simp <;> omega
              · exact .inl (u8_ne h6)
            clear HP2 hc
            rcases hkk with g6 | ⟨g6, g7⟩
            · go_wp2_with fail
              go_roundw
              case rel => exact ⟨i + 1, st, last, lb, by go_num, rfl, rfl, by omega, hst2, hlb, hL.out, hW.out, HP4.out, unhide HB3⟩
              case measure => simp [intOf]; omega
            · go_wp2_with fail
              go_roundw
              case rel => exact ⟨i + 1, st, last, lb, by go_num, rfl, rfl, by omega, hst2, hlb, hL.out, hW.out, HP4.out, unhide HB3⟩
              case measure => simp [intOf]; omega
    · have hP1 := hP.out
      rw [show n - i = 0 by omega] at hP1
      have he : endL (lp (ord d) (dec d) k 0 i last ((bs s).drop q)) s.size = (q : Int) := by
        unfold lp
        show ((s.size - ((bs s).drop q).length : Nat) : Int) = _
        rw [List.length_drop, bs_size]; congr 1; omega
      have HPE : Hid (endL (lp (ord d) (dec d) k n 0 none r) s.size = (q : Int)) := Lib.hid (by rw [hP1]; exact he)
      clear hP hP1 he
      go_wp2_with fail
      go_ret
      exact ⟨by rw [HPE.out]; rfl, hB.out⟩

end Go.Proofs.YtaambeficfiacaaGreatDoor
