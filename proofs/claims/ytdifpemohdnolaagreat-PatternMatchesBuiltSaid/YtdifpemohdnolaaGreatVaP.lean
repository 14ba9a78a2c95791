/- compareFirst and compareValid: the order of the values that begin two strings. Condition: at most 1048576 bytes. -/
-- by tools/gen_cmpf.py
import Derived.Test.YtdifpemohdnolaaGreatVaO
import Derived.Test.YtdifpemohdnolaaGreatVaN
import Derived.Deep.RegionHeld3
import Derived.Lib.Strings
namespace Go.Proofs.YtdifpemohdnolaaGreat
open Go.RowKit VM

theorem enc_kind (x : V) {d : Nat} (h : wf d x = true) : ∃ t, enc x = x.kind :: t := by
  cases x with
  | int l => exact ⟨l, rfl⟩
  | bool b => exact ⟨[b], rfl⟩
  | name a b => exact ⟨[a, b], rfl⟩
  | comp k l => exact ⟨_, rfl⟩
theorem bs_extract (s : ByteArray) (a : Nat) : bs (s.extract a s.size) = (bs s).drop a := by
  show (s.extract a s.size).data.toList = _
  rw [Go.Lib.extract_data]
  exact List.take_of_length_le (by rw [List.length_drop]; simp)
/-- what compareFirst leaves -/
def CfPost (d : Nat) (x y : V) (w : World) (e : Ending) (w' : World) : Prop :=
  ∃ L : Int, e = .returned (.tuple #[.int .i64 (ord d x y), .int .i64 L]) ∧ (ord d x y = 0 → L = ((enc x).length : Nat)) ∧ Below w.heap.size w w'
def CfCon (d : Nat) : Prop := ∀ (s t : ByteArray) (x y : V) (r r' : List UInt8), wf d x = true → wf d y = true → bs s = enc x ++ r → bs t = enc y ++ r' → s.size ≤ 1048576 → t.size ≤ 1048576 → ∀ w : World,
  Calls Tryz.prog 113 #[.string s, .string t] w (CfPost d x y w)
theorem enc_first {s : ByteArray} {x : V} {d : Nat} {r : List UInt8} (h : wf d x = true) (e : bs s = enc x ++ r) : 0 < s.size ∧ (bs s)[0]? = some x.kind := by
  obtain ⟨t, ht⟩ := enc_kind x h
  rw [ht] at e
  have hl := congrArg List.length e
  rw [bs_size] at hl
  refine ⟨by simp at hl; omega, by rw [e]; rfl⟩

/-- two values of one kind without parts -/
def SimpleF (d : Nat) (s t : ByteArray) (x y : V) : Prop := simpleB y.kind = true ∧ slenB y.kind ≤ s.size ∧ slenB y.kind ≤ t.size ∧ ord (d + 1) x y = sgn (signed (numV y.kind s)) (signed (numV y.kind t)) ∧ (enc x).length = slenB y.kind
theorem numV_int {s : ByteArray} {l r : List UInt8} (hl : l.length = 8) (e : bs s = 1 :: l ++ r) : numV 1 s = natL l ∧ 9 ≤ s.size := by
  refine ⟨?_, ?_⟩
  · unfold numV
    rw [e]
    show natL ((l ++ r).take 8) = _
    rw [List.take_left' hl]
  · rw [← bs_size, e]; simp; omega
theorem signed_small {n : Nat} (h : n < 65536) : signed n = (n : Int) := by unfold signed; rw [if_pos (by omega)]
theorem simple_facts {d : Nat} {s t : ByteArray} {x y : V} {r r' : List UInt8} (hx : wf (d + 1) x = true) (hy : wf (d + 1) y = true) (hs : bs s = enc x ++ r) (ht : bs t = enc y ++ r') (hk : x.kind = y.kind) :
    SimpleF d s t x y ∨ ∃ k l m, x = .comp k l ∧ y = .comp k m := by
  rcases same_kind hx hy hk with ⟨l, m, rfl, rfl⟩ | ⟨a, b, rfl, rfl⟩ | ⟨a, b, c, e, rfl, rfl⟩ | ⟨k, l, m, rfl, rfl⟩
  · left
    unfold wf at hx hy
    rw [decide_eq_true_eq] at hx hy
    obtain ⟨n1, z1⟩ := numV_int hx hs
    obtain ⟨n2, z2⟩ := numV_int hy ht
    refine ⟨rfl, z1, z2, ?_, ?_⟩
    · show _ = sgn (signed (numV 1 s)) (signed (numV 1 t))
      rw [ord_int, n1, n2]; rfl
    · show (1 :: l).length = 9
      simp [hx]
  · left
    have z1 : 2 ≤ s.size := by rw [← bs_size, hs]; simp [enc]
    have z2 : 2 ≤ t.size := by rw [← bs_size, ht]; simp [enc]
    refine ⟨rfl, z1, z2, ?_, rfl⟩
    have n1 : numV 2 s = a.toNat := by unfold numV; rw [hs]; show natL [a] = _; simp [natL]
    have n2 : numV 2 t = b.toNat := by unfold numV; rw [ht]; show natL [b] = _; simp [natL]
    show _ = sgn (signed (numV 2 s)) (signed (numV 2 t))
    rw [ord_bool, n1, n2, signed_small (by have := a.toNat_lt; omega), signed_small (by have := b.toNat_lt; omega)]
  · left
    have z1 : 3 ≤ s.size := by rw [← bs_size, hs]; simp [enc]
    have z2 : 3 ≤ t.size := by rw [← bs_size, ht]; simp [enc]
    refine ⟨rfl, z1, z2, ?_, rfl⟩
    have n1 : numV 10 s = u16 a b := by unfold numV; rw [hs]; show natL [a, b] = _; simp [natL, u16]
    have n2 : numV 10 t = u16 c e := by unfold numV; rw [ht]; show natL [c, e] = _; simp [natL, u16]
    show _ = sgn (signed (numV 10 s)) (signed (numV 10 t))
    rw [ord_name, n1, n2, signed_small (u16_lt _ _), signed_small (u16_lt _ _)]
  · exact .inr ⟨k, l, m, rfl, rfl⟩


theorem comp_simple {d : Nat} {k : UInt8} {l : List V} (h : wf d (.comp k l) = true) : simpleB k = false := by
  obtain ⟨h1, h2, h3⟩ := kind_comp h
  unfold simpleB; simp [h1, h2, h3]
theorem comp_bytes {d : Nat} {k : UInt8} {l : List V} {s : ByteArray} {r : List UInt8} (h : wf d (.comp k l) = true) (e : bs s = enc (.comp k l) ++ r) :
    ∃ a b, (bs s)[1]? = some a ∧ (bs s)[2]? = some b ∧ u16 a b = l.length ∧ 3 ≤ s.size ∧ (bs s).drop 3 = encs l ++ r ∧ l.length < 65536 ∧ s.size = (enc (.comp k l)).length + r.length := by
  have hl : l.length < 65536 := by
    cases d with
    | zero => cases h
    | succ d => unfold wf at h; simp only [Bool.and_eq_true, decide_eq_true_eq] at h; exact h.2.1
  refine ⟨UInt8.ofNat (l.length / 256), UInt8.ofNat l.length, by rw [e]; rfl, by rw [e]; rfl, u16_ofNat _ hl, ?_, by rw [e]; rfl, hl, by rw [← bs_size, e, List.length_append]⟩
  rw [← bs_size, e]
  show 3 ≤ (k :: UInt8.ofNat (l.length / 256) :: UInt8.ofNat l.length :: (encs l ++ r)).length
  simp
theorem enc_pos (x : V) {d : Nat} (h : wf d x = true) : 0 < (enc x).length := by
  obtain ⟨t, ht⟩ := enc_kind x h
  rw [ht]; simp
theorem ordL_end (f : V → V → Int) (l m : List V) (h : l = [] ∨ m = []) : ord.ordL f l m = sgn (l.length : Nat) (m.length : Nat) := by
  cases l with
  | nil =>
    cases m with
    | nil => rfl
    | cons b m =>
      have : ord.ordL f [] (b :: m) = -1 := by unfold ord.ordL; rfl
      rw [this]
      unfold sgn
      simp only [List.length_nil, List.length_cons]
      rw [if_pos (by omega)]
  | cons a l =>
    cases m with
    | nil =>
      have : ord.ordL f (a :: l) [] = 1 := by unfold ord.ordL; rfl
      rw [this]
      unfold sgn
      simp only [List.length_nil, List.length_cons]
      rw [if_neg (by omega), if_pos (by omega)]
    | cons b m => rcases h with h | h <;> cases h
theorem sgn_drop (l m : List V) (i : Nat) (h1 : i ≤ l.length) (h2 : i ≤ m.length) : sgn ((l.drop i).length : Nat) ((m.drop i).length : Nat) = sgn (l.length : Nat) (m.length : Nat) := by
  rw [List.length_drop, List.length_drop]
  unfold sgn
  repeat' split
  all_goals omega

set_option linter.unusedSimpArgs false in
set_option maxRecDepth 100000 in
set_option maxHeartbeats 6400000 in
theorem cf_up (d : Nat) (ih : CfCon d) : CfCon (d + 1) := by
  intro s t x y r r' hx hy hs ht hs1 ht1 w
  have HIH := Lib.hid ih
  have HX := Lib.hid hx
  have HY := Lib.hid hy
  have HS := Lib.hid hs
  have HT := Lib.hid ht
  obtain ⟨hs0, k0⟩ := enc_first hx hs
  obtain ⟨ht0, k1⟩ := enc_first hy ht
  have e1 : s[0] = x.kind := by rw [bs_get s 0 hs0] at k0; exact Option.some.inj k0
  have e2 : t[0] = y.kind := by rw [bs_get t 0 ht0] at k1; exact Option.some.inj k1
  have wk : wrap64 (x.kind.toNat : Int) = (x.kind.toNat : Int) := IntWalk.wrap64_in _ (by have := x.kind.toNat_lt; omega)
  have HK0 := Lib.hid k0
  have HK1 := Lib.hid k1
  clear ih hx hy hs ht k0 k1
  go_enter Tryz.func113, Tryz.ntmps113
  go_wp2_with fail
  have HBd : Hid (Below w.heap.size w w.drew) := below_drew (Below.refl _ _)
  refine wp_region_noPanic ?_
  refine wp_region_held_drew (S := fun W => True) (by kernel_rfl) trivial (fun _ => ?_)
  generalize w.drew = wd at *
  try simp only [Act.put, List.setIfInBounds_toArray, List.set_cons_zero, List.set_cons_succ]
  refine wpAnyH_take (i := 0) (oi := { dst := some 14, op := Op.move (Operand.tmp 0), type := 23, pos := "order.go:21", after := #[], guard := none }) (v := ?_) rfl (by kernel_rfl) (by kernel_rfl) (by kernel_rfl) (fun _ _ _ h => h) (Or.inl ⟨by rfl, ?_⟩) trivial ?_
  rotate_left 1
  · intro w hSw
    try dsimp only at hSw
    go_simp
    first
      | done
      | with_reducible rfl
      | rw [if_neg (by omega)]
  try simp only [Act.put, List.setIfInBounds_toArray, List.set_cons_zero, List.set_cons_succ]
  refine wpAnyH_take (i := 1) (oi := { dst := some 15, op := Op.index 23 (Operand.tmp 14) (Operand.const (Value.int IntKind.i64 0)), type := 5, pos := "order.go:21", after := #[{ on := 0, ground := Ground.data }], guard := none }) (v := ?_) rfl (by kernel_rfl) (by kernel_rfl) (by kernel_rfl) (fun _ _ _ h => h) (Or.inl ⟨by rfl, ?_⟩) trivial ?_
  rotate_left 1
  · intro w hSw
    try dsimp only at hSw
    go_simp
    first
      | done
      | with_reducible rfl
      | rw [if_neg (by omega)]
  try simp only [Act.put, List.setIfInBounds_toArray, List.set_cons_zero, List.set_cons_succ]
  refine wpAnyH_take (i := 2) (oi := { dst := some 16, op := Op.move (Operand.tmp 1), type := 23, pos := "order.go:21", after := #[], guard := none }) (v := ?_) rfl (by kernel_rfl) (by kernel_rfl) (by kernel_rfl) (fun _ _ _ h => h) (Or.inl ⟨by rfl, ?_⟩) trivial ?_
  rotate_left 1
  · intro w hSw
    try dsimp only at hSw
    go_simp
    first
      | done
      | with_reducible rfl
      | rw [if_neg (by omega)]
  try simp only [Act.put, List.setIfInBounds_toArray, List.set_cons_zero, List.set_cons_succ]
  refine wpAnyH_take (i := 3) (oi := { dst := some 17, op := Op.index 23 (Operand.tmp 16) (Operand.const (Value.int IntKind.i64 0)), type := 5, pos := "order.go:21", after := #[{ on := 2, ground := Ground.data }], guard := none }) (v := ?_) rfl (by kernel_rfl) (by kernel_rfl) (by kernel_rfl) (fun _ _ _ h => h) (Or.inl ⟨by rfl, ?_⟩) trivial ?_
  rotate_left 1
  · intro w hSw
    try dsimp only at hSw
    go_simp
    first
      | done
      | with_reducible rfl
      | rw [if_neg (by omega)]
  try simp only [Act.put, List.setIfInBounds_toArray, List.set_cons_zero, List.set_cons_succ]
  refine wpAnyH_ready (rs := [4]) (by kernel_rfl) (by simp) ?_
  refine AllReadyH.cons (o := { dst := some 18, op := Op.call { callee := Callee.value (Operand.func 133), args := #[Operand.tmp 15, Operand.tmp 17], argTypes := #[5, 5] }, type := 3, pos := "order.go:21", after := #[{ on := 1, ground := Ground.data }, { on := 3, ground := Ground.data }], guard := none }) rfl (fun K hK => ?_) AllReadyH.nil
  go_simp
  go_at_call 133
  refine (cmpB _ _ _).mono ?_
  rintro e w501 ⟨rfl, rfl⟩
  try dsimp only
  refine hK.out _ _ trivial (fun _ => ?_)
  clear hK K
  try simp only [Act.put, List.setIfInBounds_toArray, List.set_cons_zero, List.set_cons_succ]
  refine wpAnyH_take (i := 5) (oi := { dst := some 7, op := Op.assign (Operand.tmp 18), type := 3, pos := "order.go:21", after := #[{ on := 4, ground := Ground.data }, { on := 4, ground := Ground.chain }, { on := 0, ground := Ground.phase }, { on := 1, ground := Ground.phase }, { on := 2, ground := Ground.phase }, { on := 3, ground := Ground.phase }, { on := 4, ground := Ground.phase }], guard := none }) (v := ?_) rfl (by kernel_rfl) (by kernel_rfl) (by kernel_rfl) (fun _ _ _ h => h) (Or.inl ⟨by rfl, ?_⟩) trivial ?_
  rotate_left 1
  · intro w hSw
    try dsimp only at hSw
    go_simp
    first
      | done
      | with_reducible rfl
      | rw [if_neg (by omega)]
  try simp only [Act.put, List.setIfInBounds_toArray, List.set_cons_zero, List.set_cons_succ]
  refine wpAnyH_done (by kernel_rfl) ?_ _
  refine NoPanic.normal ?_
  by_cases hk : x.kind = y.kind
  · rw [hk, sgn_self]
    rcases simple_facts HX.out HY.out HS.out HT.out hk with ⟨f1, f2, f3, f4, f5⟩ | ⟨k, l, m, rfl, rfl⟩
    · rw [hk] at HK0
      have HO := Lib.hid f4
      have HL := Lib.hid f5
      generalize y.kind = k at *
      clear f4 f5 hk e1 e2
      go_wp2_with fail
      refine (simple_any k _).mono ?_
      rintro e w4 ⟨rfl, rfl⟩
      rw [f1]
      go_wp2_with fail
      refine (number_any s k HK0.out f2 hs1 _).mono ?_
      rintro e w5 ⟨rfl, rfl⟩
      go_wp2_with fail
      refine (number_any t k HK1.out f3 ht1 _).mono ?_
      rintro e w6 ⟨rfl, rfl⟩
      go_wp2_with fail
      refine (cmpL _ _ _).mono ?_
      rintro e w7 ⟨rfl, rfl⟩
      go_wp2_with fail
      refine (simpleLength_any k _).mono ?_
      rintro e w8 ⟨rfl, rfl⟩
      go_wp2_with fail
      go_ret2
      exact ⟨_, by rw [HO.out]; rfl, fun _ => by rw [HL.out], unhide HBd⟩
    · have hsb := comp_simple HX.out
      obtain ⟨a1, b1, p1, p2, p3, p4, p5, p6, p7⟩ := comp_bytes HX.out HS.out
      obtain ⟨a2, b2, q1_, q2_, q3_, q4_, q5_, q6_, q7_⟩ := comp_bytes HY.out HT.out
      have HP7 := Lib.hid p7
      have HCA := Lib.hid (fun w => count_any s a1 b1 p4 p1 p2 w)
      have HCB := Lib.hid (fun w => count_any t a2 b2 q4_ q1_ q2_ w)
      rw [p3] at HCA
      rw [q3_] at HCB
      have HD0 : Hid ((bs s).drop 3 = encs (l.drop 0) ++ r) := Lib.hid p5
      have HE0 : Hid ((bs t).drop 3 = encs (m.drop 0) ++ r') := Lib.hid q5_
      have HO0 : Hid (ord (d + 1) (.comp k l) (.comp k m) = ord.ordL (ord d) (l.drop 0) (m.drop 0)) := Lib.hid (ord_comp d k l m)
      have HWL := Lib.hid (wf_parts HX.out)
      have HWM := Lib.hid (wf_parts HY.out)
      have hkd : (V.comp k m).kind = k := rfl
      rw [hkd] at *
      clear hk hkd p1 p2 p3 p5 p7 q1_ q2_ q3_ q5_ q7_ e1 e2
      go_wp2_with fail
      refine (simple_any k _).mono ?_
      rintro e w4 ⟨rfl, rfl⟩
      rw [hsb]
      go_wp2_with fail
      refine (HCA.out _).mono ?_
      rintro e w5 ⟨rfl, n5, rfl⟩
      go_wp2_with fail
      refine (HCB.out _).mono ?_
      rintro e w6 ⟨rfl, n6, rfl⟩
      have HB6 : Hid (Below w.heap.size w ((wd.drewN n5).drewN n6)) := hide (below_drewN (below_drewN (unhide HBd) n5) n6)
      generalize (wd.drewN n5).drewN n6 = w6 at *
      clear HBd
      go_wp2_with fail
      all_goals
        go_loopw [8, 36] (fun av iv wr => ∃ i p : Nat, iv = .int .i64 i ∧ av = .int .i64 p ∧ i ≤ l.length ∧ i ≤ m.length ∧ p ≤ 1048576 ∧ Hid ((bs s).drop p = encs (l.drop i) ++ r) ∧ Hid ((bs t).drop p = encs (m.drop i) ++ r') ∧ Hid (ord (d + 1) (.comp k l) (.comp k m) = ord.ordL (ord d) (l.drop i) (m.drop i)) ∧ Hid (p ≤ s.size) ∧ Hid (Below w.heap.size w wr)) (fun _ iv _ => l.length - (intOf iv).toNat)
        case atStart => exact ⟨0, 3, rfl, rfl, by omega, by omega, by omega, HD0.out, HE0.out, HO0.out, p4, unhide HB6⟩
        case round =>
          obtain ⟨i, p, rfl, rfl, hi1, hi2, hp, hD, hE, hO, hPS, hB⟩ := hrel
          by_cases hil : i < l.length ∧ i < m.length
          · obtain ⟨il, im⟩ := hil
            obtain ⟨x, hx⟩ : ∃ x, l[i]? = some x := ⟨l[i], List.getElem?_eq_getElem il⟩
            obtain ⟨y, hy⟩ : ∃ y, m[i]? = some y := ⟨m[i], List.getElem?_eq_getElem im⟩
            have hdx : l.drop i = x :: l.drop (i + 1) := by rw [List.drop_eq_getElem_cons il]; rw [List.getElem?_eq_getElem il] at hx; rw [Option.some.inj hx]
            have hdy : m.drop i = y :: m.drop (i + 1) := by rw [List.drop_eq_getElem_cons im]; rw [List.getElem?_eq_getElem im] at hy; rw [Option.some.inj hy]
            have hwx : wf d x = true := List.all_eq_true.1 HWL.out x (List.mem_of_getElem? hx)
            have hwy : wf d y = true := List.all_eq_true.1 HWM.out y (List.mem_of_getElem? hy)
            have HWX := Lib.hid hwx
            have HWY := Lib.hid hwy
            have HE1 : Hid (bs (s.extract p s.size) = enc x ++ (encs (l.drop (i + 1)) ++ r)) := Lib.hid (by
              rw [bs_extract, hD.out, hdx, ← List.append_assoc]; rfl)
            have HE2 : Hid (bs (t.extract p t.size) = enc y ++ (encs (m.drop (i + 1)) ++ r')) := Lib.hid (by
              rw [bs_extract, hE.out, hdy, ← List.append_assoc]; rfl)
            have hl1 := congrArg List.length hD.out
            have hl2 := congrArg List.length hE.out
            rw [List.length_drop, bs_size, hdx] at hl1
            rw [List.length_drop, bs_size, hdy] at hl2
            have hx0 := enc_pos x hwx
            have hy0 := enc_pos y hwy
            have hex : (encs (x :: l.drop (i + 1))).length = (enc x).length + (encs (l.drop (i + 1))).length := by show (enc x ++ encs _).length = _; rw [List.length_append]
            have hey : (encs (y :: m.drop (i + 1))).length = (enc y).length + (encs (m.drop (i + 1))).length := by show (enc y ++ encs _).length = _; rw [List.length_append]
            rw [List.length_append, hex] at hl1
            rw [List.length_append, hey] at hl2
            have hps : p < s.size := by omega
            have hpt : p < t.size := by omega
            have HPL : Hid (p + (enc x).length ≤ s.size) := Lib.hid (by omega)
            have hz1 : (s.extract p s.size).size ≤ 1048576 := by rw [← bs_size, bs_extract, List.length_drop, bs_size]; omega
            have hz2 : (t.extract p t.size).size ≤ 1048576 := by rw [← bs_size, bs_extract, List.length_drop, bs_size]; omega
            have HO1 : Hid (ord (d + 1) (.comp k l) (.comp k m) = if ord d x y ≠ 0 then ord d x y else ord.ordL (ord d) (l.drop (i + 1)) (m.drop (i + 1))) := Lib.hid (by
              rw [hO.out, hdx, hdy]
              conv => lhs; unfold ord.ordL)
            have HD1 : Hid ((bs s).drop (p + (enc x).length) = encs (l.drop (i + 1)) ++ r) := Lib.hid (by
              rw [← List.drop_drop, hD.out, hdx]
              show ((enc x ++ encs _) ++ r).drop _ = _
              rw [List.append_assoc, List.drop_left])
            have HD2 : Hid ((bs t).drop (p + (enc y).length) = encs (m.drop (i + 1)) ++ r') := Lib.hid (by
              rw [← List.drop_drop, hE.out, hdy]
              show ((enc y ++ encs _) ++ r').drop _ = _
              rw [List.append_assoc, List.drop_left])
            clear hx hy hdx hdy hwx hwy hl1 hl2 hex hey hD hE hO hx0 hy0
            go_wp2_with fail
            have HBd : Hid (Below w.heap.size w wr.drew) := below_drew hB.out
            refine wp_region_noPanic ?_
            refine wp_region_held_drew (S := fun W => True) (by kernel_rfl) trivial (fun _ => ?_)
            generalize wr.drew = wd at *
            try simp only [Act.put, List.setIfInBounds_toArray, List.set_cons_zero, List.set_cons_succ]
            refine wpAnyH_take (i := 0) (oi := { dst := some 39, op := Op.move (Operand.tmp 0), type := 23, pos := "order.go:30", after := #[], guard := none }) (v := ?_) rfl (by kernel_rfl) (by kernel_rfl) (by kernel_rfl) (fun _ _ _ h => h) (Or.inl ⟨by rfl, ?_⟩) trivial ?_
            rotate_left 1
            · intro w hSw
              try dsimp only at hSw
              go_simp
              first
                | done
                | with_reducible rfl
                | rw [if_neg (by omega)]
            try simp only [Act.put, List.setIfInBounds_toArray, List.set_cons_zero, List.set_cons_succ]
            refine wpAnyH_take (i := 1) (oi := { dst := some 40, op := Op.move (Operand.tmp 8), type := 3, pos := "order.go:30", after := #[], guard := none }) (v := ?_) rfl (by kernel_rfl) (by kernel_rfl) (by kernel_rfl) (fun _ _ _ h => h) (Or.inl ⟨by rfl, ?_⟩) trivial ?_
            rotate_left 1
            · intro w hSw
              try dsimp only at hSw
              go_simp
              first
                | done
                | with_reducible rfl
                | rw [if_neg (by omega)]
            try simp only [Act.put, List.setIfInBounds_toArray, List.set_cons_zero, List.set_cons_succ]
            refine wpAnyH_take (i := 2) (oi := { dst := some 41, op := Op.slice 23 (Operand.tmp 39) (some (Operand.tmp 40)) none none, type := 23, pos := "order.go:30", after := #[{ on := 0, ground := Ground.data }, { on := 1, ground := Ground.data }], guard := none }) (v := .string (s.extract p s.size)) rfl (by kernel_rfl) (by kernel_rfl) (by kernel_rfl) (fun _ _ _ h => h) (Or.inl ⟨by rfl, ?_⟩) trivial ?_
            · intro w hSw
              go_simp
              first | done | (intro hc; omega) | rw [if_pos (by omega)]
            try simp only [Act.put, List.setIfInBounds_toArray, List.set_cons_zero, List.set_cons_succ]
            refine wpAnyH_take (i := 3) (oi := { dst := some 42, op := Op.move (Operand.tmp 1), type := 23, pos := "order.go:30", after := #[], guard := none }) (v := ?_) rfl (by kernel_rfl) (by kernel_rfl) (by kernel_rfl) (fun _ _ _ h => h) (Or.inl ⟨by rfl, ?_⟩) trivial ?_
            rotate_left 1
            · intro w hSw
              try dsimp only at hSw
              go_simp
              first
                | done
                | with_reducible rfl
                | rw [if_neg (by omega)]
            try simp only [Act.put, List.setIfInBounds_toArray, List.set_cons_zero, List.set_cons_succ]
            refine wpAnyH_take (i := 4) (oi := { dst := some 43, op := Op.move (Operand.tmp 8), type := 3, pos := "order.go:30", after := #[], guard := none }) (v := ?_) rfl (by kernel_rfl) (by kernel_rfl) (by kernel_rfl) (fun _ _ _ h => h) (Or.inl ⟨by rfl, ?_⟩) trivial ?_
            rotate_left 1
            · intro w hSw
              try dsimp only at hSw
              go_simp
              first
                | done
                | with_reducible rfl
                | rw [if_neg (by omega)]
            try simp only [Act.put, List.setIfInBounds_toArray, List.set_cons_zero, List.set_cons_succ]
            refine wpAnyH_take (i := 5) (oi := { dst := some 44, op := Op.slice 23 (Operand.tmp 42) (some (Operand.tmp 43)) none none, type := 23, pos := "order.go:30", after := #[{ on := 3, ground := Ground.data }, { on := 4, ground := Ground.data }], guard := none }) (v := .string (t.extract p t.size)) rfl (by kernel_rfl) (by kernel_rfl) (by kernel_rfl) (fun _ _ _ h => h) (Or.inl ⟨by rfl, ?_⟩) trivial ?_
            · intro w hSw
              go_simp
              first | done | (intro hc; omega) | rw [if_pos (by omega)]
            try simp only [Act.put, List.setIfInBounds_toArray, List.set_cons_zero, List.set_cons_succ]
            refine wpAnyH_ready (rs := [6]) (by kernel_rfl) (by simp) ?_
            refine AllReadyH.cons (o := { dst := some 45, op := Op.call { callee := Callee.value (Operand.func 113), args := #[Operand.tmp 41, Operand.tmp 44], argTypes := #[23, 23] }, type := 129, pos := "order.go:30", after := #[{ on := 2, ground := Ground.data }, { on := 5, ground := Ground.data }], guard := none }) rfl (fun K hK => ?_) AllReadyH.nil
            go_simp
            go_at_call 113
            refine (HIH.out (s.extract p s.size) (t.extract p t.size) x y _ _ HWX.out HWY.out HE1.out HE2.out hz1 hz2 wd).mono ?_
            rintro e w502 ⟨L, he, hL, hb⟩
            subst he
            have HB9 := hide ((unhide HBd).trans (hb.mono (unhide HBd).size))
            have HL9 := Lib.hid hL
            clear hb hL
            try dsimp only
            refine hK.out _ _ trivial (fun _ => ?_)
            clear hK K
            try simp only [Act.put, List.setIfInBounds_toArray, List.set_cons_zero, List.set_cons_succ]
            refine wpAnyH_take (i := 7) (oi := { dst := some 38, op := Op.move (Operand.tmp 45), type := 129, pos := "order.go:30", after := #[{ on := 6, ground := Ground.data }], guard := none }) (v := ?_) rfl (by kernel_rfl) (by kernel_rfl) (by kernel_rfl) (fun _ _ _ h => h) (Or.inl ⟨by rfl, ?_⟩) trivial ?_
            rotate_left 1
            · intro w hSw
              try dsimp only at hSw
              go_simp
              first
                | done
                | with_reducible rfl
                | rw [if_neg (by omega)]
            try simp only [Act.put, List.setIfInBounds_toArray, List.set_cons_zero, List.set_cons_succ]
            refine wpAnyH_take (i := 8) (oi := { dst := some 46, op := Op.extract (Operand.tmp 38) 0, type := 3, pos := "order.go:30", after := #[{ on := 7, ground := Ground.data }], guard := none }) (v := ?_) rfl (by kernel_rfl) (by kernel_rfl) (by kernel_rfl) (fun _ _ _ h => h) (Or.inl ⟨by rfl, ?_⟩) trivial ?_
            rotate_left 1
            · intro w hSw
              try dsimp only at hSw
              go_simp
              first
                | done
                | with_reducible rfl
                | rw [if_neg (by omega)]
            try simp only [Act.put, List.setIfInBounds_toArray, List.set_cons_zero, List.set_cons_succ]
            refine wpAnyH_take (i := 9) (oi := { dst := some 47, op := Op.extract (Operand.tmp 38) 1, type := 3, pos := "order.go:30", after := #[{ on := 7, ground := Ground.data }, { on := 10, ground := Ground.gcOnly Departure.lateStores }], guard := none }) (v := ?_) rfl (by kernel_rfl) (by kernel_rfl) (by kernel_rfl) (fun _ _ _ h => h) (Or.inl ⟨by rfl, ?_⟩) trivial ?_
            rotate_left 1
            · intro w hSw
              try dsimp only at hSw
              go_simp
              first
                | done
                | with_reducible rfl
                | rw [if_neg (by omega)]
            try simp only [Act.put, List.setIfInBounds_toArray, List.set_cons_zero, List.set_cons_succ]
            refine wpAnyH_take (i := 10) (oi := { dst := some 9, op := Op.assign (Operand.tmp 46), type := 3, pos := "order.go:30", after := #[{ on := 8, ground := Ground.data }, { on := 6, ground := Ground.chain }, { on := 0, ground := Ground.phase }, { on := 1, ground := Ground.phase }, { on := 2, ground := Ground.phase }, { on := 3, ground := Ground.phase }, { on := 4, ground := Ground.phase }, { on := 5, ground := Ground.phase }, { on := 6, ground := Ground.phase }, { on := 7, ground := Ground.phase }, { on := 8, ground := Ground.phase }, { on := 9, ground := Ground.textOnly Departure.lateStores }], guard := none }) (v := ?_) rfl (by kernel_rfl) (by kernel_rfl) (by kernel_rfl) (fun _ _ _ h => h) (Or.inl ⟨by rfl, ?_⟩) trivial ?_
            rotate_left 1
            · intro w hSw
              try dsimp only at hSw
              go_simp
              first
                | done
                | with_reducible rfl
                | rw [if_neg (by omega)]
            try simp only [Act.put, List.setIfInBounds_toArray, List.set_cons_zero, List.set_cons_succ]
            refine wpAnyH_take (i := 11) (oi := { dst := some 10, op := Op.assign (Operand.tmp 47), type := 3, pos := "order.go:30", after := #[{ on := 9, ground := Ground.data }, { on := 10, ground := Ground.chain }, { on := 0, ground := Ground.phase }, { on := 1, ground := Ground.phase }, { on := 2, ground := Ground.phase }, { on := 3, ground := Ground.phase }, { on := 4, ground := Ground.phase }, { on := 5, ground := Ground.phase }, { on := 6, ground := Ground.phase }, { on := 7, ground := Ground.phase }, { on := 8, ground := Ground.phase }, { on := 9, ground := Ground.phase }, { on := 10, ground := Ground.phase }], guard := none }) (v := ?_) rfl (by kernel_rfl) (by kernel_rfl) (by kernel_rfl) (fun _ _ _ h => h) (Or.inl ⟨by rfl, ?_⟩) trivial ?_
            rotate_left 1
            · intro w hSw
              try dsimp only at hSw
              go_simp
              first
                | done
                | with_reducible rfl
                | rw [if_neg (by omega)]
            try simp only [Act.put, List.setIfInBounds_toArray, List.set_cons_zero, List.set_cons_succ]
            refine wpAnyH_done (by kernel_rfl) ?_ _
            refine NoPanic.normal ?_
            by_cases hz : ord d x y = 0
            · obtain rfl := (ord_tot d).zero x y HWX.out HWY.out hz
              obtain rfl := HL9.out hz
              have HO2 : Hid (ord (d + 1) (.comp k l) (.comp k m) = ord.ordL (ord d) (l.drop (i + 1)) (m.drop (i + 1))) := Lib.hid (by rw [HO1.out, if_neg (by simpa using hz)])
              have hpl := HPL.out
              generalize (enc x).length = q at *
              rw [hz]
              clear HO1 HL9 hz
              go_wp2_with fail
              go_roundw
              case rel => exact ⟨i + 1, p + q, by go_num, by go_num, by omega, by omega, by omega, HD1.out, HD2.out, HO2.out, HPL.out, unhide HB9⟩
              case measure => simp [intOf]; omega
            · have g1 : (ord d x y == 0) = false := beq_eq_false_iff_ne.2 hz
              have HO2 : Hid (ord (d + 1) (.comp k l) (.comp k m) = ord d x y) := Lib.hid (by rw [HO1.out, if_pos hz])
              have HZ := Lib.hid hz
              clear hz HO1
              go_wp2_with fail
              go_ret2
              exact ⟨0, by rw [HO2.out]; rfl, fun q => absurd (HO2.out.symm.trans q) HZ.out, unhide HB9⟩
          · have hend : l.drop i = [] ∨ m.drop i = [] := by
              by_cases q : i < l.length
              · exact .inr (List.drop_eq_nil_of_le (by omega))
              · exact .inl (List.drop_eq_nil_of_le (by omega))
            have HOE : Hid (ord (d + 1) (.comp k l) (.comp k m) = sgn (l.length : Nat) (m.length : Nat)) := Lib.hid (by rw [hO.out, ordL_end _ _ _ hend, sgn_drop l m i hi1 hi2])
            have HLE : Hid (ord (d + 1) (.comp k l) (.comp k m) = 0 → (p : Int) = ((enc (.comp k l)).length : Nat)) := Lib.hid fun q => by
              rw [HOE.out] at q
              have q2 := sgn_zero q
              have hd1 : l.drop i = [] := List.drop_eq_nil_of_le (by rcases hend with h | h <;> (have := congrArg List.length h; simp at this; omega))
              have hl1 := congrArg List.length hD.out
              rw [List.length_drop, bs_size, hd1] at hl1
              have h7 := HP7.out
              have h8 := hPS.out
              have : (encs ([] : List V) ++ r).length = r.length := rfl
              omega
            clear hend hD hE hO
            have hne : ¬ (i < l.length ∧ i < m.length) := hil
            go_wp2_with fail
            refine (HCA.out _).mono ?_
            rintro e w7 ⟨rfl, n7, rfl⟩
            go_wp2_with fail
            refine (HCB.out _).mono ?_
            rintro e w8 ⟨rfl, n8, rfl⟩
            go_wp2_with fail
            refine (cmpI _ _ _).mono ?_
            rintro e w9 ⟨rfl, rfl⟩
            go_wp2_with fail
            go_ret2
            exact ⟨p, by rw [HOE.out]; rfl, HLE.out, below_drewN hB.out _⟩
  · have hne : (sgn (x.kind.toNat : Int) (y.kind.toNat : Int) == 0) = false := beq_eq_false_iff_ne.2 (fun q => kind_ne hk (sgn_zero q))
    have HO : Hid (ord (d + 1) x y = sgn (x.kind.toNat : Int) (y.kind.toNat : Int)) := Lib.hid (ord_kind hk)
    have HOZ : Hid (ord (d + 1) x y ≠ 0) := Lib.hid (by rw [HO.out]; exact beq_eq_false_iff_ne.1 hne)
    go_wp2_with fail
    go_ret2
    exact ⟨0, by rw [HO.out]; rfl, fun q => absurd q HOZ.out, unhide HBd⟩

theorem cf_any : ∀ d, CfCon d
  | 0 => fun s t x y r r' hx => by cases hx
  | d + 1 => cf_up d (cf_any d)
/-- values that are a whole string -/
theorem cmpV_any (d : Nat) (s t : ByteArray) (x y : V) (hx : wf d x = true) (hy : wf d y = true) (hs : bs s = enc x) (ht : bs t = enc y) (hs1 : s.size ≤ 1048576) (ht1 : t.size ≤ 1048576) (w : World) :
    Calls Tryz.prog 102 #[.string s, .string t] w fun e w' => e = .returned (.int .i64 (ord d x y)) ∧ Below w.heap.size w w' := by
  have C := hide (cf_any d s t x y [] [] hx hy (by rw [hs, List.append_nil]) (by rw [ht, List.append_nil]) hs1 ht1 w)
  by_cases he : s = t
  · have hxy : x = y := enc_inj hx hy (by rw [← hs, ← ht, he])
    subst hxy
    subst he
    have hz := (ord_tot d).refl x hx
    rw [hz]
    clear C hx hy hs ht hz
    go_enter Tryz.func102, Tryz.ntmps102
    have g : (s.toList == s.toList) = true := beq_self_eq_true _
    go_wp2_with fail
    go_ret
    exact ⟨rfl, Below.refl _ _⟩
  · have g : (s.toList == t.toList) = false := beq_eq_false_iff_ne.2 fun q => he (by
      rw [ByteArray.toList_eq, ByteArray.toList_eq] at q
      exact ByteArray.ext (Array.toList_inj.1 q))
    clear hx hy hs ht he
    go_enter Tryz.func102, Tryz.ntmps102
    go_wp2_with fail
    refine (unhide C).mono ?_
    rintro e w1 ⟨L, rfl, -, hb⟩
    have HB := hide hb
    clear hb
    go_wp2_with fail
    go_ret
    exact ⟨rfl, unhide HB⟩

end Go.Proofs.YtdifpemohdnolaaGreat
