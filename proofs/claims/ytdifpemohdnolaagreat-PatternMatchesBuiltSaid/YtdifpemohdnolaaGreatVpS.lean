/- value.Sort: the strings of a list in ascending order, each once. Conditions: at most 1048576 strings of at most 2^48 bytes. -/
import Derived.Test.YtdifpemohdnolaaGreatVaP
import Derived.Shelf.SlSortCmp.Whole1
import Derived.Shelf.SlicesG.CompactS
import Derived.Shelf.SlLaysNS
import Derived.Ground.SlsfProg
import Derived.Ground.SlgnProg
import Derived.Test.YtdifpemohdnolaaGreatProg
import Derived.Test.YtdifpemohdnolaaGreatVsM
import Derived.Shelf.SortG.Plain
import Derived.Shelf.SortG.SortNone
import Derived.Shelf.SlSortCmp.NoneTotal
import Derived.Sort.OwnSorted
import Derived.Laws.OwnMore
import Derived.Test.YtdifpemohdnolaaGreatVsD
namespace Go.Proofs.YtdifpemohdnolaaGreat
open Go.RowKit VM

/-- the world as it was, but for its count of draws -/
def Dr (w w' : World) : Prop := ∃ q, w' = w.drewN q
theorem Dr.refl (w : World) : Dr w w := ⟨0, rfl⟩
theorem Dr.add {w v : World} (h : Dr w v) : Dr w v.drew := by obtain ⟨q, rfl⟩ := h; exact ⟨q + 1, rfl⟩
theorem Dr.addN {w v : World} (h : Dr w v) (n : Nat) : Dr w (v.drewN n) := by obtain ⟨q, rfl⟩ := h; exact ⟨q + n, by simp [World.drewN, Nat.add_assoc]⟩
theorem Dr.trans {w v u : World} (h : Dr w v) (k : Dr v u) : Dr w u := by obtain ⟨q, rfl⟩ := h; obtain ⟨n, rfl⟩ := k; exact ⟨q + n, by simp [World.drewN, Nat.add_assoc]⟩
theorem Dr.below {w v : World} (h : Dr w v) : Below w.heap.size w v := by obtain ⟨q, rfl⟩ := h; exact below_drewN (Below.refl _ _) q
def CfdPost (d : Nat) (x y : V) (w : World) (e : Ending) (w' : World) : Prop :=
  ∃ L : Int, e = .returned (.tuple #[.int .i64 (ord d x y), .int .i64 L]) ∧ (ord d x y = 0 → L = ((enc x).length : Nat)) ∧ Dr w w'
def CfdCon (d : Nat) : Prop := ∀ (s t : ByteArray) (x y : V) (r r' : List UInt8), wf d x = true → wf d y = true → bs s = enc x ++ r → bs t = enc y ++ r' → s.size ≤ 1048576 → t.size ≤ 1048576 → ∀ w : World,
  Calls Tryz.prog 113 #[.string s, .string t] w (CfdPost d x y w)
set_option linter.unusedSimpArgs false in
set_option maxRecDepth 100000 in
set_option maxHeartbeats 6400000 in
theorem cfd_up (d : Nat) (ih : CfdCon d) : CfdCon (d + 1) := by
  intro s t x y r r' hx hy hs ht hs1 ht1 w
  have HIH := Lib.hid ih
  have HX := Lib.hid hx
  have HY := Lib.hid hy
  have HS := Lib.hid hs
  have HT := Lib.hid ht
  obtain ⟨hs0, k0⟩ := enc_first hx hs
  obtain ⟨ht0, k1⟩ := enc_first hy ht
  have e1 : s[0] = x.kind := by rw [bs_get s 0 hs0] at k0; exact Option.some.inj k0
  have e2 : t[0] = y.kind := by rw [bs_get t 0 ht0] at k1; exact Option.some.inj k1
  have wk : wrap64 (x.kind.toNat : Int) = (x.kind.toNat : Int) := IntWalk.wrap64_in _ (by have := x.kind.toNat_lt; omega)
  have HK0 := Lib.hid k0
  have HK1 := Lib.hid k1
  clear ih hx hy hs ht k0 k1
  go_enter Tryz.func113, Tryz.ntmps113
  go_wp2_with fail
  have HBd : Hid (Dr w w.drew) := Dr.add (Dr.refl _)
  refine wp_region_noPanic ?_
  refine wp_region_held_drew (S := fun W => True) (by kernel_rfl) trivial (fun _ => ?_)
  generalize w.drew = wd at *
  try simp only [Act.put, List.setIfInBounds_toArray, List.set_cons_zero, List.set_cons_succ]
  refine wpAnyH_take (i := 0) (oi := { dst := some 14, op := Op.move (Operand.tmp 0), type := 23, pos := "order.go:21", after := #[], guard := none }) (v := ?_) rfl (by kernel_rfl) (by kernel_rfl) (by kernel_rfl) (fun _ _ _ h => h) (Or.inl ⟨by rfl, ?_⟩) trivial ?_
  rotate_left 1
  · intro w hSw
    try dsimp only at hSw
    go_simp
    first
      | done
      | with_reducible rfl
      | rw [if_neg (by omega)]
  try simp only [Act.put, List.setIfInBounds_toArray, List.set_cons_zero, List.set_cons_succ]
  refine wpAnyH_take (i := 1) (oi := { dst := some 15, op := Op.index 23 (Operand.tmp 14) (Operand.const (Value.int IntKind.i64 0)), type := 5, pos := "order.go:21", after := #[{ on := 0, ground := Ground.data }], guard := none }) (v := ?_) rfl (by kernel_rfl) (by kernel_rfl) (by kernel_rfl) (fun _ _ _ h => h) (Or.inl ⟨by rfl, ?_⟩) trivial ?_
  rotate_left 1
  · intro w hSw
    try dsimp only at hSw
    go_simp
    first
      | done
      | with_reducible rfl
      | rw [if_neg (by omega)]
  try simp only [Act.put, List.setIfInBounds_toArray, List.set_cons_zero, List.set_cons_succ]
  refine wpAnyH_take (i := 2) (oi := { dst := some 16, op := Op.move (Operand.tmp 1), type := 23, pos := "order.go:21", after := #[], guard := none }) (v := ?_) rfl (by kernel_rfl) (by kernel_rfl) (by kernel_rfl) (fun _ _ _ h => h) (Or.inl ⟨by rfl, ?_⟩) trivial ?_
  rotate_left 1
  · intro w hSw
    try dsimp only at hSw
    go_simp
    first
      | done
      | with_reducible rfl
      | rw [if_neg (by omega)]
  try simp only [Act.put, List.setIfInBounds_toArray, List.set_cons_zero, List.set_cons_succ]
  refine wpAnyH_take (i := 3) (oi := { dst := some 17, op := Op.index 23 (Operand.tmp 16) (Operand.const (Value.int IntKind.i64 0)), type := 5, pos := "order.go:21", after := #[{ on := 2, ground := Ground.data }], guard := none }) (v := ?_) rfl (by kernel_rfl) (by kernel_rfl) (by kernel_rfl) (fun _ _ _ h => h) (Or.inl ⟨by rfl, ?_⟩) trivial ?_
  rotate_left 1
  · intro w hSw
    try dsimp only at hSw
    go_simp
    first
      | done
      | with_reducible rfl
      | rw [if_neg (by omega)]
  try simp only [Act.put, List.setIfInBounds_toArray, List.set_cons_zero, List.set_cons_succ]
  refine wpAnyH_ready (rs := [4]) (by kernel_rfl) (by simp) ?_
  refine AllReadyH.cons (o := { dst := some 18, op := Op.call { callee := Callee.value (Operand.func 133), args := #[Operand.tmp 15, Operand.tmp 17], argTypes := #[5, 5] }, type := 3, pos := "order.go:21", after := #[{ on := 1, ground := Ground.data }, { on := 3, ground := Ground.data }], guard := none }) rfl (fun K hK => ?_) AllReadyH.nil
  go_simp
  go_at_call 133
  refine (cmpB _ _ _).mono ?_
  rintro e w501 ⟨rfl, rfl⟩
  try dsimp only
  refine hK.out _ _ trivial (fun _ => ?_)
  clear hK K
  try simp only [Act.put, List.setIfInBounds_toArray, List.set_cons_zero, List.set_cons_succ]
  refine wpAnyH_take (i := 5) (oi := { dst := some 7, op := Op.assign (Operand.tmp 18), type := 3, pos := "order.go:21", after := #[{ on := 4, ground := Ground.data }, { on := 4, ground := Ground.chain }, { on := 0, ground := Ground.phase }, { on := 1, ground := Ground.phase }, { on := 2, ground := Ground.phase }, { on := 3, ground := Ground.phase }, { on := 4, ground := Ground.phase }], guard := none }) (v := ?_) rfl (by kernel_rfl) (by kernel_rfl) (by kernel_rfl) (fun _ _ _ h => h) (Or.inl ⟨by rfl, ?_⟩) trivial ?_
  rotate_left 1
  · intro w hSw
    try dsimp only at hSw
    go_simp
    first
      | done
      | with_reducible rfl
      | rw [if_neg (by omega)]
  try simp only [Act.put, List.setIfInBounds_toArray, List.set_cons_zero, List.set_cons_succ]
  refine wpAnyH_done (by kernel_rfl) ?_ _
  refine NoPanic.normal ?_
  by_cases hk : x.kind = y.kind
  · rw [hk, sgn_self]
    rcases simple_facts HX.out HY.out HS.out HT.out hk with ⟨f1, f2, f3, f4, f5⟩ | ⟨k, l, m, rfl, rfl⟩
    · rw [hk] at HK0
      have HO := Lib.hid f4
      have HL := Lib.hid f5
      generalize y.kind = k at *
      clear f4 f5 hk e1 e2
      go_wp2_with fail
      refine (simple_any k _).mono ?_
      rintro e w4 ⟨rfl, rfl⟩
      rw [f1]
      go_wp2_with fail
      refine (number_any s k HK0.out f2 hs1 _).mono ?_
      rintro e w5 ⟨rfl, rfl⟩
      go_wp2_with fail
      refine (number_any t k HK1.out f3 ht1 _).mono ?_
      rintro e w6 ⟨rfl, rfl⟩
      go_wp2_with fail
      refine (cmpL _ _ _).mono ?_
      rintro e w7 ⟨rfl, rfl⟩
      go_wp2_with fail
      refine (simpleLength_any k _).mono ?_
      rintro e w8 ⟨rfl, rfl⟩
      go_wp2_with fail
      go_ret2
      exact ⟨_, by rw [HO.out]; rfl, fun _ => by rw [HL.out], unhide HBd⟩
    · have hsb := comp_simple HX.out
      obtain ⟨a1, b1, p1, p2, p3, p4, p5, p6, p7⟩ := comp_bytes HX.out HS.out
      obtain ⟨a2, b2, q1_, q2_, q3_, q4_, q5_, q6_, q7_⟩ := comp_bytes HY.out HT.out
      have HP7 := Lib.hid p7
      have HCA := Lib.hid (fun w => count_any s a1 b1 p4 p1 p2 w)
      have HCB := Lib.hid (fun w => count_any t a2 b2 q4_ q1_ q2_ w)
      rw [p3] at HCA
      rw [q3_] at HCB
      have HD0 : Hid ((bs s).drop 3 = encs (l.drop 0) ++ r) := Lib.hid p5
      have HE0 : Hid ((bs t).drop 3 = encs (m.drop 0) ++ r') := Lib.hid q5_
      have HO0 : Hid (ord (d + 1) (.comp k l) (.comp k m) = ord.ordL (ord d) (l.drop 0) (m.drop 0)) := Lib.hid (ord_comp d k l m)
      have HWL := Lib.hid (wf_parts HX.out)
      have HWM := Lib.hid (wf_parts HY.out)
      have hkd : (V.comp k m).kind = k := rfl
      rw [hkd] at *
      clear hk hkd p1 p2 p3 p5 p7 q1_ q2_ q3_ q5_ q7_ e1 e2
      go_wp2_with fail
      refine (simple_any k _).mono ?_
      rintro e w4 ⟨rfl, rfl⟩
      rw [hsb]
      go_wp2_with fail
      refine (HCA.out _).mono ?_
      rintro e w5 ⟨rfl, n5, rfl⟩
      go_wp2_with fail
      refine (HCB.out _).mono ?_
      rintro e w6 ⟨rfl, n6, rfl⟩
      have HB6 : Hid (Dr w ((wd.drewN n5).drewN n6)) := hide (Dr.addN (Dr.addN (unhide HBd) n5) n6)
      generalize (wd.drewN n5).drewN n6 = w6 at *
      clear HBd
      go_wp2_with fail
      all_goals
        go_loopw [8, 36] (fun av iv wr => ∃ i p : Nat, iv = .int .i64 i ∧ av = .int .i64 p ∧ i ≤ l.length ∧ i ≤ m.length ∧ p ≤ 1048576 ∧ Hid ((bs s).drop p = encs (l.drop i) ++ r) ∧ Hid ((bs t).drop p = encs (m.drop i) ++ r') ∧ Hid (ord (d + 1) (.comp k l) (.comp k m) = ord.ordL (ord d) (l.drop i) (m.drop i)) ∧ Hid (p ≤ s.size) ∧ Hid (Dr w wr)) (fun _ iv _ => l.length - (intOf iv).toNat)
        case atStart => exact ⟨0, 3, rfl, rfl, by omega, by omega, by omega, HD0.out, HE0.out, HO0.out, p4, unhide HB6⟩
        case round =>
          obtain ⟨i, p, rfl, rfl, hi1, hi2, hp, hD, hE, hO, hPS, hB⟩ := hrel
          by_cases hil : i < l.length ∧ i < m.length
          · obtain ⟨il, im⟩ := hil
            obtain ⟨x, hx⟩ : ∃ x, l[i]? = some x := ⟨l[i], List.getElem?_eq_getElem il⟩
            obtain ⟨y, hy⟩ : ∃ y, m[i]? = some y := ⟨m[i], List.getElem?_eq_getElem im⟩
            have hdx : l.drop i = x :: l.drop (i + 1) := by rw [List.drop_eq_getElem_cons il]; rw [List.getElem?_eq_getElem il] at hx; rw [Option.some.inj hx]
            have hdy : m.drop i = y :: m.drop (i + 1) := by rw [List.drop_eq_getElem_cons im]; rw [List.getElem?_eq_getElem im] at hy; rw [Option.some.inj hy]
            have hwx : wf d x = true := List.all_eq_true.1 HWL.out x (List.mem_of_getElem? hx)
            have hwy : wf d y = true := List.all_eq_true.1 HWM.out y (List.mem_of_getElem? hy)
            have HWX := Lib.hid hwx
            have HWY := Lib.hid hwy
            have HE1 : Hid (bs (s.extract p s.size) = enc x ++ (encs (l.drop (i + 1)) ++ r)) := Lib.hid (by
              rw [bs_extract, hD.out, hdx, ← List.append_assoc]; rfl)
            have HE2 : Hid (bs (t.extract p t.size) = enc y ++ (encs (m.drop (i + 1)) ++ r')) := Lib.hid (by
              rw [bs_extract, hE.out, hdy, ← List.append_assoc]; rfl)
            have hl1 := congrArg List.length hD.out
            have hl2 := congrArg List.length hE.out
            rw [List.length_drop, bs_size, hdx] at hl1
            rw [List.length_drop, bs_size, hdy] at hl2
            have hx0 := enc_pos x hwx
            have hy0 := enc_pos y hwy
            have hex : (encs (x :: l.drop (i + 1))).length = (enc x).length + (encs (l.drop (i + 1))).length := by show (enc x ++ encs _).length = _; rw [List.length_append]
            have hey : (encs (y :: m.drop (i + 1))).length = (enc y).length + (encs (m.drop (i + 1))).length := by show (enc y ++ encs _).length = _; rw [List.length_append]
            rw [List.length_append, hex] at hl1
            rw [List.length_append, hey] at hl2
            have hps : p < s.size := by omega
            have hpt : p < t.size := by omega
            have HPL : Hid (p + (enc x).length ≤ s.size) := Lib.hid (by omega)
            have hz1 : (s.extract p s.size).size ≤ 1048576 := by rw [← bs_size, bs_extract, List.length_drop, bs_size]; omega
            have hz2 : (t.extract p t.size).size ≤ 1048576 := by rw [← bs_size, bs_extract, List.length_drop, bs_size]; omega
            have HO1 : Hid (ord (d + 1) (.comp k l) (.comp k m) = if ord d x y ≠ 0 then ord d x y else ord.ordL (ord d) (l.drop (i + 1)) (m.drop (i + 1))) := Lib.hid (by
              rw [hO.out, hdx, hdy]
              conv => lhs; unfold ord.ordL)
            have HD1 : Hid ((bs s).drop (p + (enc x).length) = encs (l.drop (i + 1)) ++ r) := Lib.hid (by
              rw [← List.drop_drop, hD.out, hdx]
              show ((enc x ++ encs _) ++ r).drop _ = _
              rw [List.append_assoc, List.drop_left])
            have HD2 : Hid ((bs t).drop (p + (enc y).length) = encs (m.drop (i + 1)) ++ r') := Lib.hid (by
              rw [← List.drop_drop, hE.out, hdy]
              show ((enc y ++ encs _) ++ r').drop _ = _
              rw [List.append_assoc, List.drop_left])
            clear hx hy hdx hdy hwx hwy hl1 hl2 hex hey hD hE hO hx0 hy0
            go_wp2_with fail
            have HBd : Hid (Dr w wr.drew) := Dr.add hB.out
            refine wp_region_noPanic ?_
            refine wp_region_held_drew (S := fun W => True) (by kernel_rfl) trivial (fun _ => ?_)
            generalize wr.drew = wd at *
            try simp only [Act.put, List.setIfInBounds_toArray, List.set_cons_zero, List.set_cons_succ]
            refine wpAnyH_take (i := 0) (oi := { dst := some 39, op := Op.move (Operand.tmp 0), type := 23, pos := "order.go:30", after := #[], guard := none }) (v := ?_) rfl (by kernel_rfl) (by kernel_rfl) (by kernel_rfl) (fun _ _ _ h => h) (Or.inl ⟨by rfl, ?_⟩) trivial ?_
            rotate_left 1
            · intro w hSw
              try dsimp only at hSw
              go_simp
              first
                | done
                | with_reducible rfl
                | rw [if_neg (by omega)]
            try simp only [Act.put, List.setIfInBounds_toArray, List.set_cons_zero, List.set_cons_succ]
            refine wpAnyH_take (i := 1) (oi := { dst := some 40, op := Op.move (Operand.tmp 8), type := 3, pos := "order.go:30", after := #[], guard := none }) (v := ?_) rfl (by kernel_rfl) (by kernel_rfl) (by kernel_rfl) (fun _ _ _ h => h) (Or.inl ⟨by rfl, ?_⟩) trivial ?_
            rotate_left 1
            · intro w hSw
              try dsimp only at hSw
              go_simp
              first
                | done
                | with_reducible rfl
                | rw [if_neg (by omega)]
            try simp only [Act.put, List.setIfInBounds_toArray, List.set_cons_zero, List.set_cons_succ]
            refine wpAnyH_take (i := 2) (oi := { dst := some 41, op := Op.slice 23 (Operand.tmp 39) (some (Operand.tmp 40)) none none, type := 23, pos := "order.go:30", after := #[{ on := 0, ground := Ground.data }, { on := 1, ground := Ground.data }], guard := none }) (v := .string (s.extract p s.size)) rfl (by kernel_rfl) (by kernel_rfl) (by kernel_rfl) (fun _ _ _ h => h) (Or.inl ⟨by rfl, ?_⟩) trivial ?_
            · intro w hSw
              go_simp
              first | done | (intro hc; omega) | rw [if_pos (by omega)]
            try simp only [Act.put, List.setIfInBounds_toArray, List.set_cons_zero, List.set_cons_succ]
            refine wpAnyH_take (i := 3) (oi := { dst := some 42, op := Op.move (Operand.tmp 1), type := 23, pos := "order.go:30", after := #[], guard := none }) (v := ?_) rfl (by kernel_rfl) (by kernel_rfl) (by kernel_rfl) (fun _ _ _ h => h) (Or.inl ⟨by rfl, ?_⟩) trivial ?_
            rotate_left 1
            · intro w hSw
              try dsimp only at hSw
              go_simp
              first
                | done
                | with_reducible rfl
                | rw [if_neg (by omega)]
            try simp only [Act.put, List.setIfInBounds_toArray, List.set_cons_zero, List.set_cons_succ]
            refine wpAnyH_take (i := 4) (oi := { dst := some 43, op := Op.move (Operand.tmp 8), type := 3, pos := "order.go:30", after := #[], guard := none }) (v := ?_) rfl (by kernel_rfl) (by kernel_rfl) (by kernel_rfl) (fun _ _ _ h => h) (Or.inl ⟨by rfl, ?_⟩) trivial ?_
            rotate_left 1
            · intro w hSw
              try dsimp only at hSw
              go_simp
              first
                | done
                | with_reducible rfl
                | rw [if_neg (by omega)]
            try simp only [Act.put, List.setIfInBounds_toArray, List.set_cons_zero, List.set_cons_succ]
            refine wpAnyH_take (i := 5) (oi := { dst := some 44, op := Op.slice 23 (Operand.tmp 42) (some (Operand.tmp 43)) none none, type := 23, pos := "order.go:30", after := #[{ on := 3, ground := Ground.data }, { on := 4, ground := Ground.data }], guard := none }) (v := .string (t.extract p t.size)) rfl (by kernel_rfl) (by kernel_rfl) (by kernel_rfl) (fun _ _ _ h => h) (Or.inl ⟨by rfl, ?_⟩) trivial ?_
            · intro w hSw
              go_simp
              first | done | (intro hc; omega) | rw [if_pos (by omega)]
            try simp only [Act.put, List.setIfInBounds_toArray, List.set_cons_zero, List.set_cons_succ]
            refine wpAnyH_ready (rs := [6]) (by kernel_rfl) (by simp) ?_
            refine AllReadyH.cons (o := { dst := some 45, op := Op.call { callee := Callee.value (Operand.func 113), args := #[Operand.tmp 41, Operand.tmp 44], argTypes := #[23, 23] }, type := 129, pos := "order.go:30", after := #[{ on := 2, ground := Ground.data }, { on := 5, ground := Ground.data }], guard := none }) rfl (fun K hK => ?_) AllReadyH.nil
            go_simp
            go_at_call 113
            refine (HIH.out (s.extract p s.size) (t.extract p t.size) x y _ _ HWX.out HWY.out HE1.out HE2.out hz1 hz2 wd).mono ?_
            rintro e w502 ⟨L, he, hL, hb⟩
            subst he
            have HB9 := hide ((unhide HBd).trans hb)
            have HL9 := Lib.hid hL
            clear hb hL
            try dsimp only
            refine hK.out _ _ trivial (fun _ => ?_)
            clear hK K
            try simp only [Act.put, List.setIfInBounds_toArray, List.set_cons_zero, List.set_cons_succ]
            refine wpAnyH_take (i := 7) (oi := { dst := some 38, op := Op.move (Operand.tmp 45), type := 129, pos := "order.go:30", after := #[{ on := 6, ground := Ground.data }], guard := none }) (v := ?_) rfl (by kernel_rfl) (by kernel_rfl) (by kernel_rfl) (fun _ _ _ h => h) (Or.inl ⟨by rfl, ?_⟩) trivial ?_
            rotate_left 1
            · intro w hSw
              try dsimp only at hSw
              go_simp
              first
                | done
                | with_reducible rfl
                | rw [if_neg (by omega)]
            try simp only [Act.put, List.setIfInBounds_toArray, List.set_cons_zero, List.set_cons_succ]
            refine wpAnyH_take (i := 8) (oi := { dst := some 46, op := Op.extract (Operand.tmp 38) 0, type := 3, pos := "order.go:30", after := #[{ on := 7, ground := Ground.data }], guard := none }) (v := ?_) rfl (by kernel_rfl) (by kernel_rfl) (by kernel_rfl) (fun _ _ _ h => h) (Or.inl ⟨by rfl, ?_⟩) trivial ?_
            rotate_left 1
            · intro w hSw
              try dsimp only at hSw
              go_simp
              first
                | done
                | with_reducible rfl
                | rw [if_neg (by omega)]
            try simp only [Act.put, List.setIfInBounds_toArray, List.set_cons_zero, List.set_cons_succ]
            refine wpAnyH_take (i := 9) (oi := { dst := some 47, op := Op.extract (Operand.tmp 38) 1, type := 3, pos := "order.go:30", after := #[{ on := 7, ground := Ground.data }, { on := 10, ground := Ground.gcOnly Departure.lateStores }], guard := none }) (v := ?_) rfl (by kernel_rfl) (by kernel_rfl) (by kernel_rfl) (fun _ _ _ h => h) (Or.inl ⟨by rfl, ?_⟩) trivial ?_
            rotate_left 1
            · intro w hSw
              try dsimp only at hSw
              go_simp
              first
                | done
                | with_reducible rfl
                | rw [if_neg (by omega)]
            try simp only [Act.put, List.setIfInBounds_toArray, List.set_cons_zero, List.set_cons_succ]
            refine wpAnyH_take (i := 10) (oi := { dst := some 9, op := Op.assign (Operand.tmp 46), type := 3, pos := "order.go:30", after := #[{ on := 8, ground := Ground.data }, { on := 6, ground := Ground.chain }, { on := 0, ground := Ground.phase }, { on := 1, ground := Ground.phase }, { on := 2, ground := Ground.phase }, { on := 3, ground := Ground.phase }, { on := 4, ground := Ground.phase }, { on := 5, ground := Ground.phase }, { on := 6, ground := Ground.phase }, { on := 7, ground := Ground.phase }, { on := 8, ground := Ground.phase }, { on := 9, ground := Ground.textOnly Departure.lateStores }], guard := none }) (v := ?_) rfl (by kernel_rfl) (by kernel_rfl) (by kernel_rfl) (fun _ _ _ h => h) (Or.inl ⟨by rfl, ?_⟩) trivial ?_
            rotate_left 1
            · intro w hSw
              try dsimp only at hSw
              go_simp
              first
                | done
                | with_reducible rfl
                | rw [if_neg (by omega)]
            try simp only [Act.put, List.setIfInBounds_toArray, List.set_cons_zero, List.set_cons_succ]
            refine wpAnyH_take (i := 11) (oi := { dst := some 10, op := Op.assign (Operand.tmp 47), type := 3, pos := "order.go:30", after := #[{ on := 9, ground := Ground.data }, { on := 10, ground := Ground.chain }, { on := 0, ground := Ground.phase }, { on := 1, ground := Ground.phase }, { on := 2, ground := Ground.phase }, { on := 3, ground := Ground.phase }, { on := 4, ground := Ground.phase }, { on := 5, ground := Ground.phase }, { on := 6, ground := Ground.phase }, { on := 7, ground := Ground.phase }, { on := 8, ground := Ground.phase }, { on := 9, ground := Ground.phase }, { on := 10, ground := Ground.phase }], guard := none }) (v := ?_) rfl (by kernel_rfl) (by kernel_rfl) (by kernel_rfl) (fun _ _ _ h => h) (Or.inl ⟨by rfl, ?_⟩) trivial ?_
            rotate_left 1
            · intro w hSw
              try dsimp only at hSw
              go_simp
              first
                | done
                | with_reducible rfl
                | rw [if_neg (by omega)]
            try simp only [Act.put, List.setIfInBounds_toArray, List.set_cons_zero, List.set_cons_succ]
            refine wpAnyH_done (by kernel_rfl) ?_ _
            refine NoPanic.normal ?_
            by_cases hz : ord d x y = 0
            · obtain rfl := (ord_tot d).zero x y HWX.out HWY.out hz
              obtain rfl := HL9.out hz
              have HO2 : Hid (ord (d + 1) (.comp k l) (.comp k m) = ord.ordL (ord d) (l.drop (i + 1)) (m.drop (i + 1))) := Lib.hid (by rw [HO1.out, if_neg (by simpa using hz)])
              have hpl := HPL.out
              generalize (enc x).length = q at *
              rw [hz]
              clear HO1 HL9 hz
              go_wp2_with fail
              go_roundw
              case rel => exact ⟨i + 1, p + q, by go_num, by go_num, by omega, by omega, by omega, HD1.out, HD2.out, HO2.out, HPL.out, unhide HB9⟩
              case measure => simp [intOf]; omega
            · have g1 : (ord d x y == 0) = false := beq_eq_false_iff_ne.2 hz
              have HO2 : Hid (ord (d + 1) (.comp k l) (.comp k m) = ord d x y) := Lib.hid (by rw [HO1.out, if_pos hz])
              have HZ := Lib.hid hz
              clear hz HO1
              go_wp2_with fail
              go_ret2
              exact ⟨0, by rw [HO2.out]; rfl, fun q => absurd (HO2.out.symm.trans q) HZ.out, unhide HB9⟩
          · have hend : l.drop i = [] ∨ m.drop i = [] := by
              by_cases q : i < l.length
              · exact .inr (List.drop_eq_nil_of_le (by omega))
              · exact .inl (List.drop_eq_nil_of_le (by omega))
            have HOE : Hid (ord (d + 1) (.comp k l) (.comp k m) = sgn (l.length : Nat) (m.length : Nat)) := Lib.hid (by rw [hO.out, ordL_end _ _ _ hend, sgn_drop l m i hi1 hi2])
            have HLE : Hid (ord (d + 1) (.comp k l) (.comp k m) = 0 → (p : Int) = ((enc (.comp k l)).length : Nat)) := Lib.hid fun q => by
              rw [HOE.out] at q
              have q2 := sgn_zero q
              have hd1 : l.drop i = [] := List.drop_eq_nil_of_le (by rcases hend with h | h <;> (have := congrArg List.length h; simp at this; omega))
              have hl1 := congrArg List.length hD.out
              rw [List.length_drop, bs_size, hd1] at hl1
              have h7 := HP7.out
              have h8 := hPS.out
              have : (encs ([] : List V) ++ r).length = r.length := rfl
              omega
            clear hend hD hE hO
            have hne : ¬ (i < l.length ∧ i < m.length) := hil
            go_wp2_with fail
            refine (HCA.out _).mono ?_
            rintro e w7 ⟨rfl, n7, rfl⟩
            go_wp2_with fail
            refine (HCB.out _).mono ?_
            rintro e w8 ⟨rfl, n8, rfl⟩
            go_wp2_with fail
            refine (cmpI _ _ _).mono ?_
            rintro e w9 ⟨rfl, rfl⟩
            go_wp2_with fail
            go_ret2
            exact ⟨p, by rw [HOE.out]; rfl, HLE.out, Dr.addN hB.out _⟩
  · have hne : (sgn (x.kind.toNat : Int) (y.kind.toNat : Int) == 0) = false := beq_eq_false_iff_ne.2 (fun q => kind_ne hk (sgn_zero q))
    have HO : Hid (ord (d + 1) x y = sgn (x.kind.toNat : Int) (y.kind.toNat : Int)) := Lib.hid (ord_kind hk)
    have HOZ : Hid (ord (d + 1) x y ≠ 0) := Lib.hid (by rw [HO.out]; exact beq_eq_false_iff_ne.1 hne)
    go_wp2_with fail
    go_ret2
    exact ⟨0, by rw [HO.out]; rfl, fun q => absurd q HOZ.out, unhide HBd⟩

theorem cfd_any : ∀ d, CfdCon d
  | 0 => fun s t x y r r' hx => by cases hx
  | d + 1 => cfd_up d (cfd_any d)
/-- values that are a whole string -/
theorem cmpVd_any (d : Nat) (s t : ByteArray) (x y : V) (hx : wf d x = true) (hy : wf d y = true) (hs : bs s = enc x) (ht : bs t = enc y) (hs1 : s.size ≤ 1048576) (ht1 : t.size ≤ 1048576) (w : World) :
    Calls Tryz.prog 102 #[.string s, .string t] w fun e w' => e = .returned (.int .i64 (ord d x y)) ∧ Dr w w' := by
  have C := hide (cfd_any d s t x y [] [] hx hy (by rw [hs, List.append_nil]) (by rw [ht, List.append_nil]) hs1 ht1 w)
  by_cases he : s = t
  · have hxy : x = y := enc_inj hx hy (by rw [← hs, ← ht, he])
    subst hxy
    subst he
    have hz := (ord_tot d).refl x hx
    rw [hz]
    clear C hx hy hs ht hz
    go_enter Tryz.func102, Tryz.ntmps102
    have g : (s.toList == s.toList) = true := beq_self_eq_true _
    go_wp2_with fail
    go_ret
    exact ⟨rfl, Dr.refl _⟩
  · have g : (s.toList == t.toList) = false := beq_eq_false_iff_ne.2 fun q => he (by
      rw [ByteArray.toList_eq, ByteArray.toList_eq] at q
      exact ByteArray.ext (Array.toList_inj.1 q))
    clear hx hy hs ht he
    go_enter Tryz.func102, Tryz.ntmps102
    go_wp2_with fail
    refine (unhide C).mono ?_
    rintro e w1 ⟨L, rfl, -, hb⟩
    have HB := hide hb
    clear hb
    go_wp2_with fail
    go_ret
    exact ⟨rfl, unhide HB⟩

end Go.Proofs.YtdifpemohdnolaaGreat
namespace Go.Proofs
open Go.Shelf
def Tryz.sortVF_ren : Go.Shelf.Ren := ⟨fun | 6 => 101 | 15 => 111 | 14 => 112 | 28 => 123 | 29 => 124 | 20 => 125 | 21 => 126 | 22 => 127 | 23 => 128 | 24 => 129 | 25 => 130 | 26 => 131 | 27 => 132 | 46 => 142 | 47 => 137 | 48 => 138 | 49 => 143 | 50 => 144 | 57 => 149 | n => n, fun | 22 => 24 | 24 => 23 | 25 => 84 | 3 => 3 | 39 => 64 | 0 => 0 | 53 => 141 | 55 => 101 | 4 => 4 | 46 => 133 | 45 => 132 | 50 => 138 | 5 => 5 | 9 => 9 | 66 => 150 | 70 => 154 | 76 => 160 | 77 => 129 | n => n, fun | n => n⟩
theorem Tryz.sortVF : Go.Proofs.SlLaysF.n6 Tryz.prog Tryz.sortVF_ren := {
  mixed := by kernel_rfl
  f6 := ⟨Tryz.f101.name, by decide, Tryz.func101.trans (congrArg some (by kernel_rfl))⟩
  f14 := ⟨Tryz.f112.name, by decide, Tryz.func112.trans (congrArg some (by kernel_rfl))⟩
  f15 := Tryz.func111.trans (congrArg some (by kernel_rfl))
  f20 := ⟨Tryz.f125.name, by decide, Tryz.func125.trans (congrArg some (by kernel_rfl))⟩
  f21 := ⟨Tryz.f126.name, by decide, Tryz.func126.trans (congrArg some (by kernel_rfl))⟩
  f22 := ⟨Tryz.f127.name, by decide, Tryz.func127.trans (congrArg some (by kernel_rfl))⟩
  f23 := ⟨Tryz.f128.name, by decide, Tryz.func128.trans (congrArg some (by kernel_rfl))⟩
  f24 := ⟨Tryz.f129.name, by decide, Tryz.func129.trans (congrArg some (by kernel_rfl))⟩
  f25 := ⟨Tryz.f130.name, by decide, Tryz.func130.trans (congrArg some (by kernel_rfl))⟩
  f26 := ⟨Tryz.f131.name, by decide, Tryz.func131.trans (congrArg some (by kernel_rfl))⟩
  f27 := ⟨Tryz.f132.name, by decide, Tryz.func132.trans (congrArg some (by kernel_rfl))⟩
  f28 := Tryz.func123.trans (congrArg some (by kernel_rfl))
  f29 := Tryz.func124.trans (congrArg some (by kernel_rfl))
  f46 := ⟨Tryz.f142.name, by decide, Tryz.func142.trans (congrArg some (by kernel_rfl))⟩
  f47 := Tryz.func137.trans (congrArg some (by kernel_rfl))
  f48 := Tryz.func138.trans (congrArg some (by kernel_rfl))
  f49 := ⟨Tryz.f143.name, by decide, Tryz.func143.trans (congrArg some (by kernel_rfl))⟩
  f50 := ⟨Tryz.f144.name, by decide, Tryz.func144.trans (congrArg some (by kernel_rfl))⟩
  f57 := ⟨Tryz.f149.name, by decide, Tryz.func149.trans (congrArg some (by kernel_rfl))⟩
  t0 := Tryz.underlying0
  a0 := Tryz.isAgg0
  z0 := Tryz.sizeOf0
  v0 := Tryz.zeroValue0
  t3 := Tryz.underlying3
  a3 := Tryz.isAgg3
  z3 := Tryz.sizeOf3
  v3 := Tryz.zeroValue3
  t4 := Tryz.underlying4
  a4 := Tryz.isAgg4
  z4 := Tryz.sizeOf4
  v4 := Tryz.zeroValue4
  t5 := Tryz.underlying5
  a5 := Tryz.isAgg5
  z5 := Tryz.sizeOf5
  v5 := Tryz.zeroValue5
  t9 := Tryz.underlying9
  a9 := Tryz.isAgg9
  z9 := Tryz.sizeOf9
  v9 := Tryz.zeroValue9
  t22 := Tryz.underlying24
  a22 := Tryz.isAgg24
  z22 := Tryz.sizeOf24
  v22 := Tryz.zeroValue24
  a24 := Tryz.isAgg23
  z24 := Tryz.sizeOf23
  t25 := Tryz.underlying84
  a25 := Tryz.isAgg84
  z25 := Tryz.sizeOf84
  v25 := Tryz.zeroValue84
  t39 := Tryz.underlying64
  a39 := Tryz.isAgg64
  z39 := Tryz.sizeOf64
  v39 := Tryz.zeroValue64
  t45 := Tryz.underlying132
  a45 := Tryz.isAgg132
  z45 := Tryz.sizeOf132
  v45 := Tryz.zeroValue132
  t46 := Tryz.underlying133
  a46 := Tryz.isAgg133
  z46 := Tryz.sizeOf133
  v46 := Tryz.zeroValue133
  t50 := Tryz.underlying138
  a50 := Tryz.isAgg138
  z50 := Tryz.sizeOf138
  v50 := Tryz.zeroValue138
  t53 := Tryz.underlying141
  a53 := Tryz.isAgg141
  z53 := Tryz.sizeOf141
  v53 := Tryz.zeroValue141
  t55 := Tryz.underlying101
  a55 := Tryz.isAgg101
  z55 := Tryz.sizeOf101
  v55 := Tryz.zeroValue101
  t66 := Tryz.underlying150
  a66 := Tryz.isAgg150
  z66 := Tryz.sizeOf150
  v66 := Tryz.zeroValue150
  t70 := Tryz.underlying154
  a70 := Tryz.isAgg154
  z70 := Tryz.sizeOf154
  v70 := Tryz.zeroValue154
  t76 := Tryz.underlying160
  a76 := Tryz.isAgg160
  z76 := Tryz.sizeOf160
  v76 := Tryz.zeroValue160
  t77 := Tryz.underlying129
  a77 := Tryz.isAgg129
  z77 := Tryz.sizeOf129
  v77 := Tryz.zeroValue129 }
def Tryz.compactV_ren : Go.Shelf.Ren := ⟨fun | 44 => 103 | n => n, fun | 25 => 24 | 26 => 23 | 3 => 3 | 4 => 4 | 0 => 0 | n => n, fun | n => n⟩
theorem Tryz.compactV : Go.Proofs.SlLaysN.n44 Tryz.prog Tryz.compactV_ren := {
  mixed := by kernel_rfl
  f44 := ⟨Tryz.f103.name, by decide, Tryz.func103.trans (congrArg some (by kernel_rfl))⟩
  t0 := Tryz.underlying0
  a0 := Tryz.isAgg0
  z0 := Tryz.sizeOf0
  v0 := Tryz.zeroValue0
  t3 := Tryz.underlying3
  a3 := Tryz.isAgg3
  z3 := Tryz.sizeOf3
  v3 := Tryz.zeroValue3
  t4 := Tryz.underlying4
  a4 := Tryz.isAgg4
  z4 := Tryz.sizeOf4
  v4 := Tryz.zeroValue4
  t25 := Tryz.underlying24
  a25 := Tryz.isAgg24
  z25 := Tryz.sizeOf24
  v25 := Tryz.zeroValue24
  t26 := Tryz.underlying23
  a26 := Tryz.isAgg23
  z26 := Tryz.sizeOf23
  v26 := Tryz.zeroValue23
  i26 := by kernel_rfl }
def Tryz.sortVS_ren : Go.Shelf.Ren := ⟨fun | 54 => 100 | 64 => 111 | 65 => 110 | 78 => 123 | 79 => 124 | 80 => 114 | 81 => 115 | 82 => 116 | 83 => 117 | 84 => 118 | 85 => 119 | 61 => 120 | 86 => 121 | 87 => 122 | 93 => 136 | 89 => 137 | 90 => 138 | 94 => 139 | 95 => 140 | 69 => 141 | 97 => 148 | n => n, fun | 25 => 24 | 26 => 23 | 3 => 3 | 51 => 64 | 0 => 0 | 67 => 141 | 69 => 101 | 4 => 4 | 61 => 133 | 60 => 132 | 44 => 138 | 5 => 5 | 9 => 9 | 75 => 150 | 79 => 154 | 83 => 160 | 84 => 129 | n => n, fun | n => n⟩
theorem Tryz.sortVS : Go.Proofs.SlLaysN.n54 Tryz.prog Tryz.sortVS_ren := {
  mixed := by kernel_rfl
  f54 := ⟨Tryz.f100.name, by decide, Tryz.func100.trans (congrArg some (by kernel_rfl))⟩
  f61 := ⟨Tryz.f120.name, by decide, Tryz.func120.trans (congrArg some (by kernel_rfl))⟩
  f64 := Tryz.func111.trans (congrArg some (by kernel_rfl))
  f65 := ⟨Tryz.f110.name, by decide, Tryz.func110.trans (congrArg some (by kernel_rfl))⟩
  f69 := ⟨Tryz.f141.name, by decide, Tryz.func141.trans (congrArg some (by kernel_rfl))⟩
  f78 := Tryz.func123.trans (congrArg some (by kernel_rfl))
  f79 := Tryz.func124.trans (congrArg some (by kernel_rfl))
  f80 := ⟨Tryz.f114.name, by decide, Tryz.func114.trans (congrArg some (by kernel_rfl))⟩
  f81 := ⟨Tryz.f115.name, by decide, Tryz.func115.trans (congrArg some (by kernel_rfl))⟩
  f82 := ⟨Tryz.f116.name, by decide, Tryz.func116.trans (congrArg some (by kernel_rfl))⟩
  f83 := ⟨Tryz.f117.name, by decide, Tryz.func117.trans (congrArg some (by kernel_rfl))⟩
  f84 := ⟨Tryz.f118.name, by decide, Tryz.func118.trans (congrArg some (by kernel_rfl))⟩
  f85 := ⟨Tryz.f119.name, by decide, Tryz.func119.trans (congrArg some (by kernel_rfl))⟩
  f86 := ⟨Tryz.f121.name, by decide, Tryz.func121.trans (congrArg some (by kernel_rfl))⟩
  f87 := ⟨Tryz.f122.name, by decide, Tryz.func122.trans (congrArg some (by kernel_rfl))⟩
  f89 := Tryz.func137.trans (congrArg some (by kernel_rfl))
  f90 := Tryz.func138.trans (congrArg some (by kernel_rfl))
  f93 := ⟨Tryz.f136.name, by decide, Tryz.func136.trans (congrArg some (by kernel_rfl))⟩
  f94 := ⟨Tryz.f139.name, by decide, Tryz.func139.trans (congrArg some (by kernel_rfl))⟩
  f95 := ⟨Tryz.f140.name, by decide, Tryz.func140.trans (congrArg some (by kernel_rfl))⟩
  f97 := ⟨Tryz.f148.name, by decide, Tryz.func148.trans (congrArg some (by kernel_rfl))⟩
  t0 := Tryz.underlying0
  a0 := Tryz.isAgg0
  z0 := Tryz.sizeOf0
  v0 := Tryz.zeroValue0
  t3 := Tryz.underlying3
  a3 := Tryz.isAgg3
  z3 := Tryz.sizeOf3
  v3 := Tryz.zeroValue3
  t4 := Tryz.underlying4
  a4 := Tryz.isAgg4
  z4 := Tryz.sizeOf4
  v4 := Tryz.zeroValue4
  t5 := Tryz.underlying5
  a5 := Tryz.isAgg5
  z5 := Tryz.sizeOf5
  v5 := Tryz.zeroValue5
  t9 := Tryz.underlying9
  a9 := Tryz.isAgg9
  z9 := Tryz.sizeOf9
  v9 := Tryz.zeroValue9
  t25 := Tryz.underlying24
  a25 := Tryz.isAgg24
  z25 := Tryz.sizeOf24
  v25 := Tryz.zeroValue24
  t26 := Tryz.underlying23
  a26 := Tryz.isAgg23
  z26 := Tryz.sizeOf23
  v26 := Tryz.zeroValue23
  t44 := Tryz.underlying138
  a44 := Tryz.isAgg138
  z44 := Tryz.sizeOf138
  v44 := Tryz.zeroValue138
  t51 := Tryz.underlying64
  a51 := Tryz.isAgg64
  z51 := Tryz.sizeOf64
  v51 := Tryz.zeroValue64
  t60 := Tryz.underlying132
  a60 := Tryz.isAgg132
  z60 := Tryz.sizeOf132
  v60 := Tryz.zeroValue132
  t61 := Tryz.underlying133
  a61 := Tryz.isAgg133
  z61 := Tryz.sizeOf133
  v61 := Tryz.zeroValue133
  t67 := Tryz.underlying141
  a67 := Tryz.isAgg141
  z67 := Tryz.sizeOf141
  v67 := Tryz.zeroValue141
  t69 := Tryz.underlying101
  a69 := Tryz.isAgg101
  z69 := Tryz.sizeOf101
  v69 := Tryz.zeroValue101
  t75 := Tryz.underlying150
  a75 := Tryz.isAgg150
  z75 := Tryz.sizeOf150
  v75 := Tryz.zeroValue150
  t79 := Tryz.underlying154
  a79 := Tryz.isAgg154
  z79 := Tryz.sizeOf154
  v79 := Tryz.zeroValue154
  t83 := Tryz.underlying160
  a83 := Tryz.isAgg160
  z83 := Tryz.sizeOf160
  v83 := Tryz.zeroValue160
  t84 := Tryz.underlying129
  a84 := Tryz.isAgg129
  z84 := Tryz.sizeOf129
  v84 := Tryz.zeroValue129 }
end Go.Proofs
namespace Go.Proofs.YtdifpemohdnolaaGreat
open Go.RowKit VM

abbrev toB (l : List UInt8) : ByteArray := ⟨l.toArray⟩
theorem toB_bs (s : ByteArray) : toB (bs s) = s := rfl
theorem bs_toB (l : List UInt8) : bs (toB l) = l := rfl
theorem map_toB (ps : List ByteArray) : (ps.map bs).map toB = ps := by
  rw [List.map_map]
  exact (List.map_congr_left fun s _ => toB_bs s).trans (List.map_id _)
theorem str_enc (ps : List ByteArray) : ps.map Value.string = (ps.map bs).map Go.Proofs.encStr := by
  rw [List.map_map]; rfl
theorem enc_str (ls : List (List UInt8)) : ls.map Go.Proofs.encStr = (ls.map toB).map Value.string := by
  rw [List.map_map]; rfl

/-! compact -/
theorem compact_asc {α : Type} [Inhabited α] [DecidableEq α] {R : α → α → Prop} (hT : ∀ a b c, R a b → R b c → R a c) (zs : List α) (h : zs.Pairwise fun a b => a = b ∨ R a b) :
    (Go.Lib.compact zs).Pairwise R ∧ ∀ u, u ∈ Go.Lib.compact zs ↔ u ∈ zs := by
  have key : ∀ m, m ≤ zs.length → (Go.Lib.compactUpTo zs.toArray m).Pairwise R ∧ (∀ u, u ∈ Go.Lib.compactUpTo zs.toArray m ↔ u ∈ zs.take m) ∧ (∀ v, 0 < m → zs[m - 1]? = some v → ∀ u ∈ Go.Lib.compactUpTo zs.toArray m, u = v ∨ R u v) := by
    intro m
    induction m with
    | zero => intro _; exact ⟨List.Pairwise.nil, fun u => by simp [Go.Lib.compactUpTo], fun v h => absurd h (by omega)⟩
    | succ m ih =>
      intro hm
      obtain ⟨i1, i2, i3⟩ := ih (by omega)
      obtain ⟨x, hx⟩ : ∃ x, zs[m]? = some x := ⟨zs[m]'(by omega), List.getElem?_eq_getElem _⟩
      have hxm : m < zs.length := by omega
      have e : zs.toArray[m]! = x := by
        rw [getElem!_pos _ m (by simpa using hxm)]
        rw [List.getElem?_eq_getElem hxm] at hx
        simpa using hx
      have ht : zs.take (m + 1) = zs.take m ++ [x] := by rw [List.take_add_one, hx]; rfl
      have hpre : ∀ u ∈ zs.take m, u = x ∨ R u x := by
        intro u hu
        have hP : (zs.take (m + 1)).Pairwise fun a b => a = b ∨ R a b := h.sublist (List.take_sublist _ _)
        rw [ht] at hP
        exact (List.pairwise_append.1 hP).2.2 u hu x (by simp)
      rw [Go.Lib.compactUpTo_succ, e]
      by_cases hk : Go.Lib.keeps zs.toArray m = true
      · rw [if_pos hk]
        refine ⟨List.pairwise_append.2 ⟨i1, List.pairwise_singleton _ _, ?_⟩, ?_, ?_⟩
        · intro u hu b hb
          rw [List.mem_singleton.1 hb]
          rcases Nat.eq_zero_or_pos m with h0 | h0
          · subst h0; have := (i2 u).1 hu; simp at this
          · obtain ⟨v, hv⟩ : ∃ v, zs[m - 1]? = some v := ⟨zs[m - 1]'(by omega), List.getElem?_eq_getElem _⟩
            have hvm : m - 1 < zs.length := by omega
            have ev : zs.toArray[m - 1]! = v := by
              rw [getElem!_pos _ (m - 1) (by simpa using hvm)]
              rw [List.getElem?_eq_getElem hvm] at hv
              simpa using hv
            have hne : x ≠ v := by
              unfold Go.Lib.keeps at hk
              rw [decide_eq_true_eq, e, ev] at hk
              exact hk.resolve_left (by omega)
            have hvx : R v x := by
              rcases hpre v (List.mem_of_getElem? (i := m - 1) (by rw [List.getElem?_take_of_lt (by omega)]; exact hv)) with q | q
              · exact absurd q.symm hne
              · exact q
            rcases i3 v h0 hv u hu with q | q
            · subst q; exact hvx
            · exact hT _ _ _ q hvx
        · intro u
          rw [ht, List.mem_append, List.mem_append, i2]
        · intro v _ hv u hu
          rw [Nat.add_sub_cancel, hx] at hv
          obtain rfl := Option.some.inj hv
          rcases List.mem_append.1 hu with hu | hu
          · exact hpre u ((i2 u).1 hu)
          · exact .inl (List.mem_singleton.1 hu)
      · rw [if_neg hk, List.append_nil]
        have h0 : 0 < m := by
          rcases Nat.eq_zero_or_pos m with h0 | h0
          · subst h0; exact absurd (Go.Lib.keeps_lt_one zs.toArray 0 (by omega)) hk
          · exact h0
        obtain ⟨v, hv⟩ : ∃ v, zs[m - 1]? = some v := ⟨zs[m - 1]'(by omega), List.getElem?_eq_getElem _⟩
        have hvm : m - 1 < zs.length := by omega
        have ev : zs.toArray[m - 1]! = v := by
          rw [getElem!_pos _ (m - 1) (by simpa using hvm)]
          rw [List.getElem?_eq_getElem hvm] at hv
          simpa using hv
        have hxv : x = v := by
          unfold Go.Lib.keeps at hk
          rw [decide_eq_true_eq, e, ev] at hk
          exact Decidable.byContradiction fun q => hk (.inr q)
        have hmem : x ∈ zs.take m := by rw [hxv]; exact List.mem_of_getElem? (i := m - 1) (by rw [List.getElem?_take_of_lt (by omega)]; exact hv)
        refine ⟨i1, ?_, ?_⟩
        · intro u
          rw [ht, List.mem_append, i2]
          exact ⟨.inl, fun q => q.elim id fun q => by rw [List.mem_singleton.1 q]; exact hmem⟩
        · intro v' _ hv' u hu
          rw [Nat.add_sub_cancel, hx] at hv'
          obtain rfl := Option.some.inj hv'
          exact hpre u ((i2 u).1 hu)
  have hl := key zs.length (Nat.le_refl _)
  refine ⟨hl.1, fun u => ?_⟩
  have := hl.2.1 u
  rwa [List.take_length] at this
/-- of strings in order, compacted -/
def compB2 (zs : List ByteArray) : List ByteArray := (Go.Lib.compact (zs.map bs)).map toB
theorem compact_sort {zs ps : List ByteArray} (h : zs.Pairwise fun a b => cmpM a b ≤ 0) (hm : ∀ u, u ∈ zs ↔ u ∈ ps) : compB2 zs = sortM ps := by
  have hc := compact_asc (R := fun a b : List UInt8 => cmpM (toB a) (toB b) < 0) (fun a b c h1 h2 => cmpM_lt_le h1 (by omega)) (zs.map bs) (by
    rw [List.pairwise_map]
    refine h.imp fun {a b} q => ?_
    show bs a = bs b ∨ cmpM a b < 0
    by_cases e : a = b
    · exact .inl (by rw [e])
    · exact .inr (by have : cmpM a b ≠ 0 := fun z => e ((cmpM_zero a b).1 z); omega))
  refine sortM_eq ?_ fun u => ?_
  · unfold compB2 Asc
    rw [List.pairwise_map]
    exact hc.1
  · unfold compB2
    rw [← hm, List.mem_map]
    constructor
    · rintro ⟨l, hl, rfl⟩
      obtain ⟨s, hs, e⟩ := List.mem_map.1 ((hc.2 l).1 hl)
      rw [← e]; exact hs
    · intro hu
      exact ⟨bs u, (hc.2 _).2 (List.mem_map.2 ⟨u, hu, rfl⟩), rfl⟩

/-! slices.Sort at strings -/
theorem sortS_any (v : Value) (p base : Nat) (xs : List ByteArray) (w : World) (hp : p ≤ 1048576) (hO : w.ownsRow base 23 1 v p (xs.map Value.string)) :
    Calls Tryz.prog 100 #[v] w fun e w' => e = .returned (.tuple #[]) ∧ ∃ ys : List ByteArray, w'.ownsRow base 23 1 v p (ys.map Value.string) ∧ ys.Perm xs ∧ (ys.Pairwise fun a b => bs a ≤ bs b) ∧ w.grownBy w' v.ownBlock := by
  have hlen : xs.length = p := by have := hO.1; simpa using this
  rcases hO.2 with ⟨rfl, rfl⟩ | ⟨g, cap, cur, rfl, hb, hg, h1, h2, h3, h4⟩
  · refine (AnyG.slices_Sort_string_none Tryz.sortVS none 0 w).mono ?_
    rintro e w' ⟨rfl, rfl⟩
    have : xs = [] := List.eq_nil_of_length_eq_zero hlen
    subst this
    exact ⟨rfl, [], hO, List.Perm.refl _, List.Pairwise.nil, World.grownBy.refl _ _⟩
  · have h4' : cur.toList.take (xs.map bs).length = (xs.map bs).map Go.Proofs.encStr := by rw [List.length_map, hlen, ← str_enc]; simpa using h4
    have hH := Go.holds_of_block hg h4'
    have hlt : g < w.heap.size := (Array.getElem?_eq_some_iff.1 hg).1
    have hC := AnyG.slices_Sort_string Tryz.sortVS g 0 cap (xs.map bs) w hH hlt (by rw [List.length_map]; omega)
    rw [List.length_map, hlen] at hC
    refine hC.mono ?_
    rintro e w' ⟨rfl, n, os, rfl⟩
    refine ⟨rfl, ((xs.map bs).mergeSort fun x y => decide (x ≤ y)).map toB, ?_, ?_, ?_, Go.grownBy_sorted _⟩
    · have := Go.ownsRow_sorted (n := n) (os := os) (ss := xs.map bs) (ts := (xs.map bs).mergeSort fun x y => decide (x ≤ y)) (List.length_mergeSort _) hb hg (by rw [List.length_map, hlen]; exact h1) h2 h3
      rw [List.length_map, hlen, enc_str] at this
      exact this
    · have := (List.mergeSort_perm (xs.map bs) fun x y => decide (x ≤ y)).map toB
      rwa [map_toB] at this
    · rw [List.pairwise_map]
      have := List.pairwise_mergeSort (le := fun x y : List UInt8 => decide (x ≤ y)) (fun a b c q1 q2 => decide_eq_true (List.le_trans (of_decide_eq_true q1) (of_decide_eq_true q2))) (fun a b => by
        rcases List.le_total a b with q | q
        · simp [q]
        · simp [q]) (xs.map bs)
      exact this.imp fun {a b} q => by rw [bs_toB, bs_toB]; exact of_decide_eq_true q

/-! slices.SortFunc at values -/
abbrev Val := {s : ByteArray // valB 32 s = true}
theorem some_val : valB 32 ⟨#[2, 0]⟩ = true := valB_iff.2 ⟨by decide, .bool 0, rfl, rfl⟩
instance valInh : Inhabited Val := ⟨⟨⟨#[2, 0]⟩, some_val⟩⟩
def encV (x : Val) : Value := .string x.1
def cfV (x y : Val) : Int := cmpM x.1 y.1
theorem swoV : Go.Sort.SWO (ltOf cfV) where
  irrefl x := by
    show decide (cmpM x.1 x.1 < 0) = false
    rw [cmpM_self]; rfl
  trans x y z h1 h2 := by
    have q1 : cmpM x.1 y.1 < 0 := of_decide_eq_true h1
    have q2 : cmpM y.1 z.1 < 0 := of_decide_eq_true h2
    exact decide_eq_true (cmpM_lt_le q1 (by omega))
  ntrans x y z h1 h2 := by
    have q1 : ¬ cmpM x.1 y.1 < 0 := of_decide_eq_false h1
    have q2 : ¬ cmpM y.1 z.1 < 0 := of_decide_eq_false h2
    refine decide_eq_false fun q => ?_
    have q3 : cmpM x.1 z.1 < 0 := q
    have a1 := cmpM_anti x.1 y.1
    have a2 := cmpM_anti y.1 z.1
    have a3 := cmpM_anti x.1 z.1
    have := cmpM_trans z.1 y.1 x.1 (by omega) (by omega)
    omega
theorem holds_map {α β : Type} [Inhabited α] [Inhabited β] {f : α → β} {ea : α → Value} {eb : β → Value} (hf : ∀ x, ea x = eb (f x)) {w : World} {g o : Nat} {d : Array α} (h : Go.Sort.Holds eb w g o (d.map f)) : Go.Sort.Holds ea w g o d := by
  intro j hj
  have := h j (by simpa using hj)
  rw [getElem!_pos _ j (by simpa using hj)] at this
  rw [getElem!_pos _ j hj, hf]
  simpa using this
theorem putRow_map {α β : Type} [Inhabited α] [Inhabited β] {f : α → β} {ea : α → Value} {eb : β → Value} (hf : ∀ x, ea x = eb (f x)) (w : World) (g o : Nat) (d : Array α) : Go.Sort.putRow ea w g o d = Go.Sort.putRow eb w g o (d.map f) := by
  unfold Go.Sort.putRow
  congr 1
  funext c
  unfold Go.Sort.putCells
  refine congrArg (fun F => c.mapIdx F) ?_
  funext k x
  rw [Array.size_map]
  by_cases hk : o ≤ k ∧ k < o + d.size
  · rw [if_pos hk, if_pos hk, getElem!_pos _ (k - o) (by omega), getElem!_pos _ (k - o) (by rw [Array.size_map]; omega), hf]
    simp
  · rw [if_neg hk, if_neg hk]
theorem cmpV_lays (W : World) (x y : Val) : Calls Tryz.prog 102 #[encV x, encV y] W fun e w' => e = .returned (.int .i64 (cfV x y)) ∧ ∃ q, w' = W.drewN q := by
  obtain ⟨a1, a2, a3⟩ := tree_ok x.2
  obtain ⟨b1, b2, b3⟩ := tree_ok y.2
  have h := cmpVd_any 32 x.1 y.1 (treeB x.1) (treeB y.1) a1 b1 a2 b2 (by omega) (by omega) W
  rw [← cmp_tree (Nat.le_refl _) x.2 y.2] at h
  exact h
theorem attach_vals {xs : List ByteArray} (h : ∀ s ∈ xs, valB 32 s = true) : ∃ d : List Val, d.map Subtype.val = xs := by
  induction xs with
  | nil => exact ⟨[], rfl⟩
  | cons a l ih =>
    obtain ⟨d, hd⟩ := ih fun s hs => h s (List.mem_cons_of_mem _ hs)
    exact ⟨⟨a, h a (by simp)⟩ :: d, by rw [List.map_cons, hd]⟩
theorem sortF_any (v : Value) (p base : Nat) (xs : List ByteArray) (w : World) (hp : p ≤ 1048576) (hv : ∀ s ∈ xs, valB 32 s = true) (hO : w.ownsRow base 23 1 v p (xs.map Value.string)) :
    Calls Tryz.prog 101 #[v, .func (.func 102) #[] #[]] w fun e w' => e = .returned (.tuple #[]) ∧ ∃ ys : List ByteArray, w'.ownsRow base 23 1 v p (ys.map Value.string) ∧ ys.Perm xs ∧ (ys.Pairwise fun a b => cmpM a b ≤ 0) ∧ w.grownBy w' v.ownBlock := by
  have hlen : xs.length = p := by have := hO.1; simpa using this
  rcases hO.2 with ⟨rfl, rfl⟩ | ⟨g, cap, cur, rfl, hb, hg, h1, h2, h3, h4⟩
  · refine (AnyF.slices_SortFunc_none { Tryz.sortVF with } none 0 (.func (.func 102) #[] #[]) w).mono ?_
    rintro e w' ⟨rfl, rfl⟩
    have : xs = [] := List.eq_nil_of_length_eq_zero hlen
    subst this
    exact ⟨rfl, [], hO, List.Perm.refl _, List.Pairwise.nil, World.grownBy.refl _ _⟩
  · obtain ⟨d, hd⟩ := attach_vals hv
    have hdl : d.length = p := by rw [← hlen, ← hd, List.length_map]
    have h4' : cur.toList.take (xs.map bs).length = (xs.map bs).map Go.Proofs.encStr := by rw [List.length_map, hlen, ← str_enc]; simpa using h4
    have hH := Go.holds_of_block hg h4'
    have hfm : ∀ x : Val, encV x = Go.Proofs.encStr (bs x.1) := fun x => rfl
    have hda : (d.toArray.map fun x : Val => bs x.1) = (xs.map bs).toArray := by
      rw [← hd, List.map_map]; simp
    have hH2 : Go.Sort.Holds encV w g 0 d.toArray := holds_map hfm (by rw [hda]; exact hH)
    have hlt : g < w.heap.size := (Array.getElem?_eq_some_iff.1 hg).1
    have hC := Any.slices_SortFunc Tryz.sortVF encV (fun _ => rfl) cfV swoV 102 #[] g 0 cap d.toArray w (enters_of Tryz.func102 (by kernel_rfl) rfl)
      (fun m os dk _ x y => (cmpV_lays _ x y).mono fun e w' ⟨he, q, hq⟩ => ⟨he, q, #[], by rw [hq, Go.Sort.grow_empty]⟩) hH2 hlt (by rw [List.size_toArray]; omega)
    rw [List.size_toArray, hdl] at hC
    refine hC.mono ?_
    rintro e w' ⟨rfl, d', n, os, hperm, hsort, rfl⟩
    obtain ⟨hp1, -, hp3⟩ := hperm
    have hds : d'.size = p := by rw [hp1, List.size_toArray, hdl]
    have hdp : d'.toList.Perm d := by
      have e1 : d'.extract 0 p = d' := by rw [← hds]; simp
      have e2 : d.toArray.extract 0 p = d.toArray := by rw [← hdl]; simp
      rw [e1, e2] at hp3
      simpa using hp3
    refine ⟨rfl, d'.toList.map Subtype.val, ?_, ?_, ?_, ?_⟩
    · have e3 : Go.Proofs.sortWorld encV w g 0 n d' os = Go.Sort.grow (Go.Sort.putRow Go.Proofs.encStr (Go.Sort.ahead w n) g 0 ((d'.toList.map fun x : Val => bs x.1).toArray)) os := by
        unfold Go.Proofs.sortWorld
        rw [putRow_map hfm, show (d'.map fun x : Val => bs x.1) = (d'.toList.map fun x : Val => bs x.1).toArray from Array.ext' (by simp)]
      rw [e3]
      have := Go.ownsRow_sorted (n := n) (os := os) (ss := xs.map bs) (ts := d'.toList.map fun x : Val => bs x.1) (by rw [List.length_map, List.length_map, Array.length_toList, hds, hlen]) hb hg (by rw [List.length_map, hlen]; exact h1) h2 h3
      rw [List.length_map, hlen, enc_str, show (d'.toList.map fun x : Val => bs x.1).map toB = d'.toList.map Subtype.val from by rw [List.map_map]; rfl] at this
      exact this
    · have := hdp.map Subtype.val
      rwa [hd] at this
    · rw [List.pairwise_map, List.pairwise_iff_getElem]
      intro i j hi hj hij
      have hjs : j < d'.size := by simpa using hj
      have his : i < d'.size := by simpa using hi
      have hq := hsort i j (Nat.zero_le _) hij (by omega)
      rw [getElem!_pos d' i his, getElem!_pos d' j hjs] at hq
      have hq2 : ¬ cmpM d'[j].1 d'[i].1 < 0 := of_decide_eq_false hq
      have := cmpM_anti d'[j].1 d'[i].1
      show cmpM (d'.toList[i]).1 (d'.toList[j]).1 ≤ 0
      rw [Array.getElem_toList, Array.getElem_toList]
      omega
    · have e3 : Go.Proofs.sortWorld encV w g 0 n d' os = Go.Sort.grow (Go.Sort.putRow Go.Proofs.encStr (Go.Sort.ahead w n) g 0 (d'.map fun x : Val => bs x.1)) os := by
        unfold Go.Proofs.sortWorld
        rw [putRow_map hfm]
      rw [e3]
      exact Go.grownBy_sorted _

/-! slices.Compact at strings -/
theorem owns_cut {w : World} {base g cap n m : Nat} {e : TypeId} {xs : List Value} (h : w.ownsRow base e 1 (.slice (some ⟨g, 0, none⟩) n cap) n xs) (hm : m ≤ n) : w.ownsRow base e 1 (.slice (some ⟨g, 0, none⟩) m cap) m (xs.take m) := by
  have hl := h.1
  rcases h.2 with ⟨q, _⟩ | ⟨g', c', cur, q, h1, h2, h3, h4, h5, h6⟩
  · cases q
  · injection q with q1 q2 q3
    injection q1 with q1
    injection q1 with q1
    subst q1 q3
    refine ⟨by rw [List.length_take]; omega, .inr ⟨g, cap, cur, rfl, h1, h2, by omega, h4, h5, ?_⟩⟩
    rw [← h6, List.take_take, Nat.mul_one, Nat.mul_one, Nat.min_eq_left hm]
theorem compact_any (v : Value) (p base : Nat) (xs : List ByteArray) (w : World) (hp : p ≤ 2097152) (hO : w.ownsRow base 23 1 v p (xs.map Value.string)) :
    Calls Tryz.prog 103 #[v] w fun e w' => ∃ B L c, e = .returned (.slice B L c) ∧ L = (compB2 xs).length ∧ w'.ownsRow base 23 1 (.slice B L c) L ((compB2 xs).map Value.string) ∧ w.grownBy w' v.ownBlock := by
  have hlen : xs.length = p := by have := hO.1; simpa using this
  rcases hO.2 with ⟨rfl, rfl⟩ | ⟨g, cap, cur, rfl, hb, hg, h1, h2, h3, h4⟩
  · refine (AnyG.slices_Compact_string_empty Tryz.compactV none 0 w).mono ?_
    rintro e w' ⟨rfl, rfl⟩
    have : xs = [] := List.eq_nil_of_length_eq_zero hlen
    subst this
    exact ⟨none, 0, 0, rfl, rfl, hO, World.grownBy.refl _ _⟩
  · have h4' : cur.toList.take (xs.map bs).length = (xs.map bs).map Go.Proofs.encStr := by rw [List.length_map, hlen, ← str_enc]; simpa using h4
    have hH := Go.holds_of_block hg h4'
    have hlt : g < w.heap.size := (Array.getElem?_eq_some_iff.1 hg).1
    have hC := AnyG.slices_Compact_string Tryz.compactV g 0 cap (xs.map bs) w hH (by rw [List.length_map]; omega) (by rw [List.length_map]; omega)
    rw [List.length_map, hlen] at hC
    refine hC.mono ?_
    rintro e w' ⟨rfl, q, rfl⟩
    have hcl : (Go.Lib.compact (xs.map bs)).length ≤ p := by
      rw [← hlen]
      unfold Go.Lib.compact Go.Lib.compactUpTo
      rw [List.length_map]
      refine Nat.le_trans (List.length_filter_le _ _) ?_
      rw [List.length_range, List.length_map]; exact Nat.le_refl _
    refine ⟨_, _, _, rfl, by unfold compB2; rw [List.length_map], ?_, ?_⟩
    · have := Go.ownsRow_sorted (n := q) (os := #[]) (ss := xs.map bs) (ts := Go.Lib.compact (xs.map bs) ++ List.replicate (p - (Go.Lib.compact (xs.map bs)).length) []) (by rw [List.length_append, List.length_replicate, List.length_map, hlen]; omega) hb hg (by rw [List.length_map, hlen]; exact h1) h2 h3
      rw [Go.Sort.grow_empty, List.length_map, hlen] at this
      have h5 := owns_cut this hcl
      rw [← List.map_take, List.take_left' rfl, enc_str] at h5
      exact h5
    · have := Go.grownBy_sorted (w := w) (g := g) (n := q) (os := #[]) (Go.Lib.compact (xs.map bs) ++ List.replicate (p - (Go.Lib.compact (xs.map bs)).length) []).toArray
      rw [Go.Sort.grow_empty] at this
      exact this

end Go.Proofs.YtdifpemohdnolaaGreat
namespace Go.Proofs.YtdifpemohdnolaaGreat
open Go.RowKit VM

theorem le_le {a b : ByteArray} (ha : valB 32 a = false) (hb : valB 32 b = false) (h : bs a ≤ bs b) : cmpM a b ≤ 0 := by
  unfold cmpM
  by_cases e : a = b
  · rw [if_pos e]; exact Int.le_refl 0
  · rw [if_neg e, if_neg (by rw [ha]; simp), if_neg (by rw [hb]; simp)]
    unfold lessS
    rw [ByteArray.toList_eq, ByteArray.toList_eq, Go.Proofs.bytesLess_eq]
    rw [if_pos]
    · decide
    · rw [decide_eq_true_eq]
      exact Decidable.byContradiction fun q => e (bs_inj (List.le_antisymm h (List.not_lt.1 q)))
theorem lt_inv {a b : ByteArray} (ha : valB 32 a = false) (hb : valB 32 b = true) : cmpM a b ≤ 0 := by
  have e : a ≠ b := fun q => by subst q; rw [ha] at hb; cases hb
  unfold cmpM
  rw [if_neg e, if_neg (by rw [ha]; simp), if_pos hb]; decide
theorem parts_sorted {xs ys : List ByteArray} (hx : ∀ s ∈ xs, valB 32 s = false) (hy : ∀ s ∈ ys, valB 32 s = true) (h1 : xs.Pairwise fun a b => bs a ≤ bs b) (h2 : ys.Pairwise fun a b => cmpM a b ≤ 0) : (xs ++ ys).Pairwise fun a b => cmpM a b ≤ 0 := by
  refine List.pairwise_append.2 ⟨?_, h2, fun a ha b hb => lt_inv (hx a ha) (hy b hb)⟩
  refine List.Pairwise.imp_of_mem (fun {a b} ha hb q => le_le (hx a ha) (hx b hb) q) h1
set_option linter.unusedSimpArgs false in
set_option maxRecDepth 100000 in
set_option maxHeartbeats 6400000 in
theorem psort_any (ps : List ByteArray) (A : Option Addr) (n c : Nat) (w : World) (hn : n = ps.length) (hn1 : n ≤ 1048576) (hs : ∀ s ∈ ps, s.size ≤ 281474976710656) (hr : InC w A (ps.map Value.string)) :
    Calls Tryz.prog 87 #[.slice A n c] w fun e w' => ∃ B cb L, e = .returned (.slice B L cb) ∧ L = (sortM ps).length ∧ w'.ownsRow w.heap.size 23 1 (.slice B L cb) L ((sortM ps).map Value.string) ∧ Below w.heap.size w w' := by
  have HS := Lib.hid hs
  have HR := hide hr
  have HN := Lib.hid hn
  obtain ⟨i0, hi0, hiz0, hiz1, hiz2⟩ := info_parts val_info
  clear hs hr hn
  go_enter Tryz.func87, Tryz.ntmps87
  go_wp2_with fail
  go_loopw [3, 4, 9] (fun iv vv kv wr => ∃ (j p q : Nat) (xs ys : List ByteArray), kv = .int .i64 j ∧ j ≤ n ∧ p + q = j ∧ Hid (wr.ownsRow w.heap.size 23 1 iv p (xs.map Value.string)) ∧ Hid (wr.ownsRow w.heap.size 23 1 vv q (ys.map Value.string)) ∧ Hid (∀ k, iv.ownBlock = some k → vv.ownBlock ≠ some k) ∧ Hid (∀ s ∈ xs, valB 32 s = false) ∧ Hid (∀ s ∈ ys, valB 32 s = true) ∧ Hid (∀ u, u ∈ ps.take j ↔ u ∈ xs ∨ u ∈ ys) ∧ Hid (Below w.heap.size w wr)) (fun _ _ kv _ => n - (intOf kv).toNat)
  case atStart => exact ⟨0, 0, 0, [], [], rfl, by omega, rfl, World.ownsRow_nil _ _ _ _, World.ownsRow_nil _ _ _ _, fun k h => by simp [Value.ownBlock] at h, fun s h => (by cases h), fun s h => (by cases h), fun u => by simp, Below.refl _ _⟩
  case round =>
    obtain ⟨j, p, q, xs, ys, rfl, hj, hpq, hO, hP, hD, hX, hY, hM, hB⟩ := hrel
    obtain ⟨A3, c3, rfl⟩ := owns_form hO.out
    obtain ⟨A4, c4, rfl⟩ := owns_form hP.out
    by_cases hjn : j < n
    · have gj : decide ((j : Int) < (n : Int)) = true := decide_eq_true (by omega)
      obtain ⟨u, hu⟩ : ∃ u, ps[j]? = some u := ⟨ps[j]'(by have := HN.out; omega), List.getElem?_eq_getElem _⟩
      have hus := HS.out u (List.mem_of_getElem? hu)
      have HUM : Hid (∀ x, x ∈ ps.take (j + 1) ↔ x ∈ ps.take j ∨ x = u) := Lib.hid fun x => by rw [List.take_add_one, hu]; simp
      obtain ⟨b5, o5, hA1, hb5, hc5⟩ := at1s ((unhide HR).below hB.out) (i := j) (u := .string u) (by rw [List.getElem?_map, hu]; rfl)
      subst hA1
      have HV := Lib.hid (fun w => valid_any u hus w)
      clear hu
      generalize wr = w2 at *
      go_wp2_with fail
      refine (HV.out _).mono ?_
      rintro e w3 ⟨rfl, hb3⟩
      have HO3 := hide (owns_below hO.out hb3)
      have HP3 := hide (owns_below hP.out hb3)
      have HB3 := hide (hB.out.trans (hb3.mono hB.out.size))
      clear hb3 hO hP hB hc5 hb5 HV
      have HO4 := hide ((unhide HO3).alloc (.cells #[.string u] 23))
      have HP4 := hide ((unhide HP3).alloc (.cells #[.string u] 23))
      have HB4 := hide ((unhide HB3).alloc (unhide HB3).size (.cells #[.string u] 23))
      cases hz : valB 32 u with
      | true =>
        have HZ := Lib.hid hz
        clear hz
        go_wp2_with (at_builtin; refine wpList_app _ rfl _ _ 24 rfl w.heap.size 23 i0 _ 1 16 Tryz.underlying24 hi0 hiz0 hiz1 hiz2 rfl (by decide) _ q (ys.map Value.string) rfl (unhide HP4) (some ⟨w3.heap.size, 0, none⟩) 1 1 [.string u] rfl rfl (new_in w3 23 #[.string u]) (one_str u) (by unfold maxLen; omega) (by omega) (unhide HB4).size ?_; intro v5 w5 hown5 hgrow5 hblk5)
        have HB5 := hide (below_app (unhide HB4) (unhide HP4) hgrow5)
        have HO5 := hide (owns_other (unhide HO4) hgrow5 (fun k hk e => hD.out k hk e))
        have HP5 : Hid (w5.ownsRow w.heap.size 23 1 v5 (q + 1) ((ys ++ [u]).map Value.string)) := hide (by rw [List.map_append]; exact hown5)
        have HD5 : Hid (∀ k, (Value.slice A3 p c3).ownBlock = some k → v5.ownBlock ≠ some k) := Lib.hid (fun k hk e => by
          rcases hblk5 with h | h
          · rw [h] at e; exact hD.out k hk e
          · rw [h] at e
            have h2 := ((unhide HO4).lt k hk).2
            have h3 := Option.some.inj e
            omega)
        have HY5 : Hid (∀ s ∈ ys ++ [u], valB 32 s = true) := Lib.hid (fun s hs => by
          rcases List.mem_append.1 hs with hs | hs
          · exact hY.out s hs
          · rw [List.mem_singleton.1 hs]; exact HZ.out)
        have HM5 : Hid (∀ x, x ∈ ps.take (j + 1) ↔ x ∈ xs ∨ x ∈ ys ++ [u]) := Lib.hid (fun x => by
          rw [HUM.out, hM.out, List.mem_append, List.mem_singleton, or_assoc])
        clear hown5 hgrow5 hblk5
        go_wp2_with fail
        go_roundw
        case rel => exact ⟨j + 1, p, q + 1, xs, ys ++ [u], by go_num, by omega, by omega, unhide HO5, unhide HP5, HD5.out, hX.out, HY5.out, HM5.out, unhide HB5⟩
        case measure => simp [intOf]; omega
      | false =>
        have HZ := Lib.hid hz
        clear hz
        go_wp2_with (at_builtin; refine wpList_app _ rfl _ _ 24 rfl w.heap.size 23 i0 _ 1 16 Tryz.underlying24 hi0 hiz0 hiz1 hiz2 rfl (by decide) _ p (xs.map Value.string) rfl (unhide HO4) (some ⟨w3.heap.size, 0, none⟩) 1 1 [.string u] rfl rfl (new_in w3 23 #[.string u]) (one_str u) (by unfold maxLen; omega) (by omega) (unhide HB4).size ?_; intro v5 w5 hown5 hgrow5 hblk5)
        have HB5 := hide (below_app (unhide HB4) (unhide HO4) hgrow5)
        have HP5 := hide (owns_other (unhide HP4) hgrow5 (fun k hk e => hD.out k e hk))
        have HO5 : Hid (w5.ownsRow w.heap.size 23 1 v5 (p + 1) ((xs ++ [u]).map Value.string)) := hide (by rw [List.map_append]; exact hown5)
        have HD5 : Hid (∀ k, v5.ownBlock = some k → (Value.slice A4 q c4).ownBlock ≠ some k) := Lib.hid (fun k hk e => by
          rcases hblk5 with h | h
          · rw [h] at hk; exact hD.out k hk e
          · rw [h] at hk
            have h2 := ((unhide HP4).lt k e).2
            have h3 := Option.some.inj hk
            omega)
        have HX5 : Hid (∀ s ∈ xs ++ [u], valB 32 s = false) := Lib.hid (fun s hs => by
          rcases List.mem_append.1 hs with hs | hs
          · exact hX.out s hs
          · rw [List.mem_singleton.1 hs]; exact HZ.out)
        have HM5 : Hid (∀ x, x ∈ ps.take (j + 1) ↔ x ∈ xs ++ [u] ∨ x ∈ ys) := Lib.hid (fun x => by
          rw [HUM.out, hM.out, List.mem_append, List.mem_singleton, or_assoc, or_assoc, or_comm (a := x ∈ ys)])
        clear hown5 hgrow5 hblk5
        go_wp2_with fail
        go_roundw
        case rel => exact ⟨j + 1, p + 1, q, xs ++ [u], ys, by go_num, by omega, by omega, unhide HO5, unhide HP5, HD5.out, HX5.out, hY.out, HM5.out, unhide HB5⟩
        case measure => simp [intOf]; omega
    · have HME : Hid (∀ u, u ∈ xs ∨ u ∈ ys ↔ u ∈ ps) := Lib.hid (fun u => by
        rw [← hM.out, List.take_of_length_le (by have := HN.out; omega)])
      have hbz := hB.out.size
      go_wp2_with fail
      refine (sortS_any (.slice A3 p c3) p w.heap.size xs wr (by omega) hO.out).mono ?_
      rintro e w3 ⟨rfl, xs', hO3, hpx, hsx, hg3⟩
      have HB3 := hide (below_row hB.out hg3 (fun j hj => (hO.out.lt j hj).1))
      have HP3 := hide (owns_other hP.out hg3 (fun k hk e => hD.out k e hk))
      have HO3 := hide hO3
      have HPX := Lib.hid hpx
      have HSX := Lib.hid hsx
      clear hO3 hg3 hpx hsx hO hP hB
      go_wp2_with fail
      refine (sortF_any (.slice A4 q c4) q w.heap.size ys w3 (by omega) hY.out (unhide HP3)).mono ?_
      rintro e w4 ⟨rfl, ys', hP4, hpy, hsy, hg4⟩
      have HB4 := hide (below_row (unhide HB3) hg4 (fun j hj => ((unhide HP3).lt j hj).1))
      have HO4 := hide (owns_other (unhide HO3) hg4 (fun k hk e => hD.out k hk e))
      have HIP := hide (InC.own hP4)
      have HLP : Hid ((ys'.map Value.string).length = q * 1) := Lib.hid hP4.1
      have HZ : Hid ((xs' ++ ys').Pairwise fun a b => cmpM a b ≤ 0) := Lib.hid (parts_sorted (fun s h => hX.out s (HPX.out.mem_iff.1 h)) (fun s h => hY.out s (hpy.mem_iff.1 h)) HSX.out hsy)
      have HMZ : Hid (∀ u, u ∈ xs' ++ ys' ↔ u ∈ ps) := Lib.hid (fun u => by rw [List.mem_append, HPX.out.mem_iff, hpy.mem_iff]; exact HME.out u)
      clear hP4 hpy hsy hg4 HB3 HO3 HP3
      go_wp2_with (at_builtin; refine wpList_app _ rfl _ _ 24 rfl w.heap.size 23 i0 _ 1 16 Tryz.underlying24 hi0 hiz0 hiz1 hiz2 rfl (by decide) _ p (xs'.map Value.string) rfl (unhide HO4) A4 q c4 (ys'.map Value.string) rfl HLP.out (unhide HIP) (str_one ys') (by unfold maxLen; omega) (by omega) (unhide HB4).size ?_; intro v5 w5 hown5 hgrow5 _)
      have HB5 := hide (below_app (unhide HB4) (unhide HO4) hgrow5)
      have HO5 : Hid (w5.ownsRow w.heap.size 23 1 v5 (p + q) ((xs' ++ ys').map Value.string)) := hide (by rw [List.map_append]; exact hown5)
      clear hown5 hgrow5 HB4 HO4
      have HCC := hide (compact_any v5 (p + q) w.heap.size (xs' ++ ys') w5 (by omega) (unhide HO5))
      rw [compact_sort HZ.out HMZ.out] at HCC
      go_wp2_with fail
      refine (unhide HCC).mono ?_
      rintro e w6 ⟨B, L, cb, rfl, hL, hO6, hg6⟩
      have HB6 := hide (below_row (unhide HB5) hg6 (fun j hj => ((unhide HO5).lt j hj).1))
      have HO6 := hide hO6
      have HL := Lib.hid hL
      clear hO6 hg6 hL
      go_wp2_with fail
      go_ret
      exact ⟨B, cb, L, rfl, HL.out, unhide HO6, unhide HB6⟩

end Go.Proofs.YtdifpemohdnolaaGreat
