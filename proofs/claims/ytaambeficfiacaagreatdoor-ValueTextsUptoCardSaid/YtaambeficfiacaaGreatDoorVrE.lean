/- The reference's order. Condition: at most 1048576 bytes, at most 32 levels. -/
-- by tools/gen_rord.py
import Derived.Test.YtaambeficfiacaaGreatDoorVrD
import Derived.Laws.Cover1
namespace Go.Proofs.YtaambeficfiacaaGreatDoor
open Go.RowKit VM

def OrCon (d : Nat) : Prop := ∀ (s t : ByteArray) (x y : V), wf d x = true → wf d y = true → bs s = enc x → bs t = enc y → s.size ≤ 1048576 → t.size ≤ 1048576 → ∀ w : World,
  Calls Tryz.prog 57 #[.string s, .string t] w fun e w' => e = .returned (.int .i64 (ord d x y)) ∧ Below w.heap.size w w'
theorem bs_injR {s t : ByteArray} (h : bs s = bs t) : s = t := by
  cases s; cases t
  congr 1
  exact Array.toList_inj.1 h
theorem ord_self {d : Nat} {x : V} (h : wf d x = true) : ord d x x = 0 := (ord_tot d).refl x h
theorem sgn_sign (a b : Int) : (if decide (a < b) = true then (-1 : Int) else if decide (b < a) = true then 1 else 0) = sgn a b := by
  unfold sgn
  simp only [decide_eq_true_eq]
theorem encs_mem {x : V} : ∀ {l : List V}, x ∈ l → (enc x).length ≤ (encs l).length := by
  intro l
  induction l with
  | nil => intro h; cases h
  | cons a l ih =>
    intro h
    have e : (encs (a :: l)).length = (enc a).length + (encs l).length := by show (enc a ++ encs l).length = _; rw [List.length_append]
    rcases List.mem_cons.1 h with rfl | h
    · omega
    · have := ih h; omega
theorem at1s {w : World} {A : Option Addr} {xs : List Value} (h : InC w A xs) {i : Nat} {u : Value} (hi : xs[i]? = some u) : ∃ b off, A = some ⟨b, off, none⟩ ∧ b < w.heap.size ∧ w.cell? ⟨b, off + i, none⟩ = some u := by
  rcases h with rfl | ⟨b, off, h1, h2, h3⟩
  · simp at hi
  · exact ⟨b, off, h1, h2, h3 i u hi⟩
theorem less_bool {s t : ByteArray} {d : Nat} {a b : UInt8} (hs : bs s = enc (.bool a)) (ht : bs t = enc (.bool b)) (hne : s ≠ t) :
    (Op.bytesLess s.toList t.toList = true ∧ ord (d + 1) (.bool a) (.bool b) = -1) ∨ (Op.bytesLess s.toList t.toList = false ∧ ord (d + 1) (.bool a) (.bool b) = 1) := by
  have hab : a ≠ b := by rintro rfl; exact hne (bs_injR (by rw [hs, ht]))
  have hn : a.toNat ≠ b.toNat := fun q => hab (UInt8.toNat_inj.1 q)
  have e : Op.bytesLess s.toList t.toList = decide (a.toNat < b.toNat) := by
    rw [ByteArray.toList_eq, ByteArray.toList_eq]
    show Op.bytesLess (bs s) (bs t) = _
    rw [hs, ht]
    show Op.bytesLess [2, a] [2, b] = _
    simp [Op.bytesLess, UInt8.lt_iff_toNat_lt]
  rw [e, ord_bool]
  unfold sgn
  by_cases h : a.toNat < b.toNat
  · left; exact ⟨decide_eq_true h, by rw [if_pos (by omega)]⟩
  · right; exact ⟨decide_eq_false h, by rw [if_neg (by omega), if_pos (by omega)]⟩
theorem less_name {s t : ByteArray} {d : Nat} {a b c f : UInt8} (hs : bs s = enc (.name a b)) (ht : bs t = enc (.name c f)) (hne : s ≠ t) :
    (Op.bytesLess s.toList t.toList = true ∧ ord (d + 1) (.name a b) (.name c f) = -1) ∨ (Op.bytesLess s.toList t.toList = false ∧ ord (d + 1) (.name a b) (.name c f) = 1) := by
  have hn : u16 a b ≠ u16 c f := by
    intro q
    obtain ⟨rfl, rfl⟩ := u16_inj q
    exact hne (bs_injR (by rw [hs, ht]))
  have e : Op.bytesLess s.toList t.toList = decide (u16 a b < u16 c f) := by
    rw [ByteArray.toList_eq, ByteArray.toList_eq]
    show Op.bytesLess (bs s) (bs t) = _
    rw [hs, ht]
    show Op.bytesLess [10, a, b] [10, c, f] = _
    have e1 : Op.bytesLess [10, a, b] [10, c, f] = (decide (a < c) || (a == c && decide (b < f))) := by simp [Op.bytesLess]
    rw [e1, Bool.eq_iff_iff]
    simp only [Bool.or_eq_true, Bool.and_eq_true, decide_eq_true_eq, beq_iff_eq, UInt8.lt_iff_toNat_lt, ← UInt8.toNat_inj]
    unfold u16
    have := b.toNat_lt
    have := f.toNat_lt
    omega
  rw [e, ord_name]
  unfold sgn
  by_cases h : u16 a b < u16 c f
  · left; exact ⟨decide_eq_true h, by rw [if_pos (by omega)]⟩
  · right; exact ⟨decide_eq_false h, by rw [if_neg (by omega), if_pos (by omega)]⟩

set_option linter.unusedSimpArgs false in
set_option maxRecDepth 100000 in
set_option maxHeartbeats 12800000 in
theorem or_up (d : Nat) (hd : d + 1 ≤ 32) (ih : OrCon d) : OrCon (d + 1) := by
  intro s t x y hx hy hs ht hs1 ht1 w
  have HIH := Lib.hid ih
  have HX := Lib.hid hx
  have HY := Lib.hid hy
  have HS := Lib.hid hs
  have HT := Lib.hid ht
  by_cases hxy : s = t
  · subst hxy
    have : x = y := enc_inj hx hy (by rw [← hs, ht])
    subst this
    rw [ord_self hx]
    have g : (s.toList == s.toList) = true := beq_self_eq_true _
    clear ih hx hy hs ht
    go_enter Tryz.func57, Tryz.ntmps57
    go_wp2_with fail
    go_ret
    exact ⟨rfl, Below.refl _ _⟩
  have gst : (s.toList == t.toList) = false := beq_eq_false_iff_ne.2 fun q => hxy (by
    rw [ByteArray.toList_eq, ByteArray.toList_eq] at q
    exact bs_injR q)
  obtain ⟨hs0, k0⟩ := enc_first (r := []) hx (by rw [hs, List.append_nil])
  obtain ⟨ht0, k1⟩ := enc_first (r := []) hy (by rw [ht, List.append_nil])
  have e1 : s[0] = x.kind := by rw [bs_get s 0 hs0] at k0; exact Option.some.inj k0
  have e2 : t[0] = y.kind := by rw [bs_get t 0 ht0] at k1; exact Option.some.inj k1
  have wk : wrap64 (x.kind.toNat : Int) = (x.kind.toNat : Int) := IntWalk.wrap64_in _ (by have := x.kind.toNat_lt; omega)
  have zs := bs_size s
  have zt := bs_size t
  rw [hs] at zs
  rw [ht] at zt
  clear ih hx hy hs ht k0 k1
  by_cases hk : x.kind = y.kind
  · rcases same_kind HX.out HY.out hk with ⟨l, m, rfl, rfl⟩ | ⟨a, b, rfl, rfl⟩ | ⟨a, b, c, f, rfl, rfl⟩ | ⟨k, l, m, rfl, rfl⟩
    · have e3 : s[0] = 1 := e1
      have e4 : t[0] = 1 := e2
      have hl := wf_int HX.out
      have hm := wf_int HY.out
      have hz1 : 8 ≤ (s.extract 1 s.size).size ∧ (s.extract 1 s.size).size ≤ 1048576 := by
        rw [← bs_size, bs_extract, HS.out]
        show 8 ≤ l.length ∧ l.length ≤ 1048576
        omega
      have hz2 : 8 ≤ (t.extract 1 t.size).size ∧ (t.extract 1 t.size).size ≤ 1048576 := by
        rw [← bs_size, bs_extract, HT.out]
        show 8 ≤ m.length ∧ m.length ≤ 1048576
        omega
      have HN1 := Lib.hid (fun w => rnumber_any (s.extract 1 s.size) hz1.1 hz1.2 w)
      have HN2 := Lib.hid (fun w => rnumber_any (t.extract 1 t.size) hz2.1 hz2.2 w)
      have q1 : (bs (s.extract 1 s.size)).take 8 = l := by
        rw [bs_extract, HS.out]
        show l.take 8 = l
        exact List.take_of_length_le (by omega)
      have q2 : (bs (t.extract 1 t.size)).take 8 = m := by
        rw [bs_extract, HT.out]
        show m.take 8 = m
        exact List.take_of_length_le (by omega)
      rw [q1] at HN1
      rw [q2] at HN2
      have HO : Hid (ord (d + 1) (.int l) (.int m) = sgn (numL l) (numL m)) := Lib.hid (ord_int d l m)
      have hs9 : 1 ≤ s.size := by omega
      have ht9 : 1 ≤ t.size := by omega
      clear e1 e2 wk hk zs zt hl hm hz1 hz2 q1 q2 hxy
      go_enter Tryz.func57, Tryz.ntmps57
      go_wp2_with fail
      go_quiet (fail)
      have HBq : Hid (Below w.heap.size w (w.drewN nq)) := below_drewN (Below.refl _ _) nq
      generalize w.drewN nq = wq at *
      go_wp2_with fail
      have HBd : Hid (Below w.heap.size w wq.drew) := below_drew HBq.out
      refine wp_region_noPanic ?_
      refine wp_region_held_drew (S := fun W => True) (by kernel_rfl) trivial (fun _ => ?_)
      generalize wq.drew = wd at *
      try simp only [Act.put, List.setIfInBounds_toArray, List.set_cons_zero, List.set_cons_succ]
      refine wpAnyH_take (i := 0) (oi := { dst := some 36, op := Op.move (Operand.tmp 0), type := 22, pos := "value.go:264", after := #[], guard := none }) (v := ?_) rfl (by kernel_rfl) (by kernel_rfl) (by kernel_rfl) (fun _ _ _ h => h) (Or.inl ⟨by rfl, ?_⟩) trivial ?_
      rotate_left 1
      · intro w hSw
        try dsimp only at hSw
        go_simp
        first
          | done
          | with_reducible rfl
          | rw [if_neg (by omega)]
      try simp only [Act.put, List.setIfInBounds_toArray, List.set_cons_zero, List.set_cons_succ]
      refine wpAnyH_take (i := 1) (oi := { dst := some 37, op := Op.slice 22 (Operand.tmp 36) (some (Operand.const (Value.int IntKind.i64 1))) none none, type := 22, pos := "value.go:264", after := #[{ on := 0, ground := Ground.data }], guard := none }) (v := .string (s.extract 1 s.size)) rfl (by kernel_rfl) (by kernel_rfl) (by kernel_rfl) (fun _ _ _ h => h) (Or.inl ⟨by rfl, ?_⟩) trivial ?_
      · intro w hSw
        go_simp
        first | done | (intro hc; omega) | rw [if_pos (by omega)]
      try simp only [Act.put, List.setIfInBounds_toArray, List.set_cons_zero, List.set_cons_succ]
      refine wpAnyH_take (i := 3) (oi := { dst := some 39, op := Op.move (Operand.tmp 1), type := 22, pos := "value.go:264", after := #[], guard := none }) (v := ?_) rfl (by kernel_rfl) (by kernel_rfl) (by kernel_rfl) (fun _ _ _ h => h) (Or.inl ⟨by rfl, ?_⟩) trivial ?_
      rotate_left 1
      · intro w hSw
        try dsimp only at hSw
        go_simp
        first
          | done
          | with_reducible rfl
          | rw [if_neg (by omega)]
      try simp only [Act.put, List.setIfInBounds_toArray, List.set_cons_zero, List.set_cons_succ]
      refine wpAnyH_take (i := 4) (oi := { dst := some 40, op := Op.slice 22 (Operand.tmp 39) (some (Operand.const (Value.int IntKind.i64 1))) none none, type := 22, pos := "value.go:264", after := #[{ on := 3, ground := Ground.data }], guard := none }) (v := .string (t.extract 1 t.size)) rfl (by kernel_rfl) (by kernel_rfl) (by kernel_rfl) (fun _ _ _ h => h) (Or.inl ⟨by rfl, ?_⟩) trivial ?_
      · intro w hSw
        go_simp
        first | done | (intro hc; omega) | rw [if_pos (by omega)]
      try simp only [Act.put, List.setIfInBounds_toArray, List.set_cons_zero, List.set_cons_succ]
      refine wpAnyH_ready (rs := [2]) (by kernel_rfl) (by simp) ?_
      refine AllReadyH.cons (o := { dst := some 38, op := Op.call { callee := Callee.value (Operand.func 54), args := #[Operand.tmp 37], argTypes := #[9] }, type := 2, pos := "value.go:264", after := #[{ on := 1, ground := Ground.data }], guard := none }) rfl (fun K hK => ?_) AllReadyH.nil
      go_simp
      go_at_call 54
      refine (HN1.out wd).mono ?_
      rintro e w501 ⟨rfl, rfl⟩
      try dsimp only
      refine hK.out _ _ trivial (fun _ => ?_)
      clear hK K
      try simp only [Act.put, List.setIfInBounds_toArray, List.set_cons_zero, List.set_cons_succ]
      refine wpAnyH_ready (rs := [5]) (by kernel_rfl) (by simp) ?_
      refine AllReadyH.cons (o := { dst := some 41, op := Op.call { callee := Callee.value (Operand.func 54), args := #[Operand.tmp 40], argTypes := #[9] }, type := 2, pos := "value.go:264", after := #[{ on := 4, ground := Ground.data }, { on := 2, ground := Ground.chain }], guard := none }) rfl (fun K hK => ?_) AllReadyH.nil
      go_simp
      go_at_call 54
      refine (HN2.out wd).mono ?_
      rintro e w502 ⟨rfl, rfl⟩
      try dsimp only
      refine hK.out _ _ trivial (fun _ => ?_)
      clear hK K
      try simp only [Act.put, List.setIfInBounds_toArray, List.set_cons_zero, List.set_cons_succ]
      refine wpAnyH_take (i := 6) (oi := { dst := some 5, op := Op.assign (Operand.tmp 38), type := 2, pos := "value.go:264", after := #[{ on := 2, ground := Ground.data }, { on := 5, ground := Ground.chain }, { on := 0, ground := Ground.phase }, { on := 1, ground := Ground.phase }, { on := 2, ground := Ground.phase }, { on := 3, ground := Ground.textOnly Departure.lateStores }, { on := 4, ground := Ground.textOnly Departure.lateStoresUnsure }, { on := 5, ground := Ground.textOnly Departure.lateStoresUnsure }], guard := none }) (v := ?_) rfl (by kernel_rfl) (by kernel_rfl) (by kernel_rfl) (fun _ _ _ h => h) (Or.inl ⟨by rfl, ?_⟩) trivial ?_
      rotate_left 1
      · intro w hSw
        try dsimp only at hSw
        go_simp
        first
          | done
          | with_reducible rfl
          | rw [if_neg (by omega)]
      try simp only [Act.put, List.setIfInBounds_toArray, List.set_cons_zero, List.set_cons_succ]
      refine wpAnyH_take (i := 7) (oi := { dst := some 6, op := Op.assign (Operand.tmp 41), type := 2, pos := "value.go:264", after := #[{ on := 5, ground := Ground.data }, { on := 6, ground := Ground.chain }, { on := 0, ground := Ground.phase }, { on := 1, ground := Ground.phase }, { on := 2, ground := Ground.phase }, { on := 3, ground := Ground.phase }, { on := 4, ground := Ground.phase }, { on := 5, ground := Ground.phase }, { on := 6, ground := Ground.phase }], guard := none }) (v := ?_) rfl (by kernel_rfl) (by kernel_rfl) (by kernel_rfl) (fun _ _ _ h => h) (Or.inl ⟨by rfl, ?_⟩) trivial ?_
      rotate_left 1
      · intro w hSw
        try dsimp only at hSw
        go_simp
        first
          | done
          | with_reducible rfl
          | rw [if_neg (by omega)]
      try simp only [Act.put, List.setIfInBounds_toArray, List.set_cons_zero, List.set_cons_succ]
      refine wpAnyH_done (by kernel_rfl) ?_ _
      refine NoPanic.normal ?_
      go_wp2_with fail
      refine (rsign_any _ _ _).mono ?_
      rintro e w4 ⟨rfl, rfl⟩
      go_wp2_with fail
      all_goals
        go_ret
        exact ⟨by rw [HO.out]; exact ret_i (by unfold sgn; repeat' split
                                               all_goals omega), unhide HBd⟩
    · have e3 : s[0] = 2 := e1
      have e4 : t[0] = 2 := e2
      rcases less_bool (d := d) HS.out HT.out hxy with ⟨gl, go⟩ | ⟨gl, go⟩
      all_goals
        rw [go]
        clear e1 e2 wk hk zs zt hxy go
        go_enter Tryz.func57, Tryz.ntmps57
        go_wp2_with fail
        go_quiet (fail)
        go_wp2_with fail
        refine (rsign_any _ _ _).mono ?_
        rintro e w4 ⟨rfl, rfl⟩
        go_wp2_with fail
        go_ret
        exact ⟨rfl, below_drewN (Below.refl _ _) nq⟩
    · have e3 : s[0] = 10 := e1
      have e4 : t[0] = 10 := e2
      rcases less_name (d := d) HS.out HT.out hxy with ⟨gl, go⟩ | ⟨gl, go⟩
      all_goals
        rw [go]
        clear e1 e2 wk hk zs zt hxy go
        go_enter Tryz.func57, Tryz.ntmps57
        go_wp2_with fail
        go_quiet (fail)
        go_wp2_with fail
        refine (rsign_any _ _ _).mono ?_
        rintro e w4 ⟨rfl, rfl⟩
        go_wp2_with fail
        go_ret
        exact ⟨rfl, below_drewN (Below.refl _ _) nq⟩
    · have hc : isComp k = true := by
        have := HX.out
        unfold wf at this
        simp only [Bool.and_eq_true, decide_eq_true_eq] at this
        exact this.1
      have hl16 : l.length < 65536 := by
        have := HX.out
        unfold wf at this
        simp only [Bool.and_eq_true, decide_eq_true_eq] at this
        exact this.2.1
      have hk39 : 3 ≤ k.toNat ∧ k.toNat ≤ 9 := by unfold isComp at hc; exact of_decide_eq_true hc
      have e3 : s[0] = k := e1
      have e4 : t[0] = k := e2
      have n1 : ((k.toNat : Int) == 1) = false := beq_eq_false_iff_ne.2 (by omega)
      have n2 : ((k.toNat : Int) == 2) = false := beq_eq_false_iff_ne.2 (by omega)
      have n3 : ((k.toNat : Int) == 10) = false := beq_eq_false_iff_ne.2 (by omega)
      have wk2 : wrap64 (k.toNat : Int) = (k.toNat : Int) := wk
      have d1 : decC false 32 (bs s) = some (.comp k l, []) := by
        have := decC_of false 32 (.comp k l) [] (wf_le hd HX.out)
        rw [List.append_nil] at this
        rw [HS.out]; exact this
      have d2 : decC false 32 (bs t) = some (.comp k m, []) := by
        have := decC_of false 32 (.comp k m) [] (wf_le hd HY.out)
        rw [List.append_nil] at this
        rw [HT.out]; exact this
      have HW1 := Lib.hid (fun w => walk_plain 32 (by decide) s w hs1)
      have HW2 := Lib.hid (fun w => walk_plain 32 (by decide) t w ht1)
      rw [d1] at HW1
      rw [d2] at HW2
      have HO0 : Hid (ord (d + 1) (.comp k l) (.comp k m) = ord.ordL (ord d) (l.drop 0) (m.drop 0)) := Lib.hid (ord_comp d k l m)
      have HWL := Lib.hid (wf_parts HX.out)
      have HWM := Lib.hid (wf_parts HY.out)
      have hzl : ∀ x ∈ l, (enc x).length ≤ 1048576 := fun x hx => by
        have h1 := encs_mem hx
        have h2 : (enc (.comp k l)).length = (encs l).length + 3 := rfl
        omega
      have hzm : ∀ x ∈ m, (enc x).length ≤ 1048576 := fun x hx => by
        have h1 := encs_mem hx
        have h2 : (enc (.comp k m)).length = (encs m).length + 3 := rfl
        omega
      have HZL := Lib.hid hzl
      have HZM := Lib.hid hzm
      clear e1 e2 wk hk zs zt hxy d1 d2 hc hzl hzm
      go_enter Tryz.func57, Tryz.ntmps57
      go_wp2_with fail
      go_quiet (fail)
      have HBq : Hid (Below w.heap.size w (w.drewN nq)) := below_drewN (Below.refl _ _) nq
      generalize w.drewN nq = wq at *
      go_wp2_with fail
      refine (HW1.out wq).mono ?_
      rintro e w3 hW3
      obtain ⟨A1, c1, ps1, dd1, rfl, -, hown1, hp1, hb3⟩ := hW3
      simp only [PartsOf] at hp1
      have HB3 := hide ((unhide HBq).trans (hb3.mono (unhide HBq).size))
      have HR1 := hide (InC.own hown1)
      have HP1 := Lib.hid hp1
      have l1 : ps1.length = l.length := by have := congrArg List.length hp1; rwa [List.length_map, List.length_map] at this
      clear hb3 hown1 hp1 HBq
      go_wp2_with fail
      refine (HW2.out w3).mono ?_
      rintro e w4 hW4
      obtain ⟨A2, c2, ps2, dd2, rfl, -, hown2, hp2, hb4⟩ := hW4
      simp only [PartsOf] at hp2
      have HB4 := hide ((unhide HB3).trans (hb4.mono (unhide HB3).size))
      have HR2 := hide (InC.own hown2)
      have HR3 := hide ((unhide HR1).below hb4)
      have HP2 := Lib.hid hp2
      have l2 : ps2.length = m.length := by have := congrArg List.length hp2; rwa [List.length_map, List.length_map] at this
      clear hb4 hown2 hp2 HB3 HR1
      go_wp2_with fail
      go_loopw [13] (fun iv wr => ∃ j : Nat, iv = .int .i64 j ∧ j ≤ l.length ∧ j ≤ m.length ∧ Hid (InC wr A1 (ps1.map Value.string)) ∧ Hid (InC wr A2 (ps2.map Value.string)) ∧ Hid (ord (d + 1) (.comp k l) (.comp k m) = ord.ordL (ord d) (l.drop j) (m.drop j)) ∧ Hid (Below w.heap.size w wr)) (fun iv _ => l.length - (intOf iv).toNat)
      case atStart => exact ⟨0, rfl, by omega, by omega, unhide HR3, unhide HR2, HO0.out, unhide HB4⟩
      case round =>
        obtain ⟨j, rfl, hi1, hi2, hR1, hR2, hO, hB⟩ := hrel
        by_cases hil : j < l.length ∧ j < m.length
        · obtain ⟨il, im⟩ := hil
          obtain ⟨x, hx⟩ : ∃ x, l[j]? = some x := ⟨l[j], List.getElem?_eq_getElem il⟩
          obtain ⟨y, hy⟩ : ∃ y, m[j]? = some y := ⟨m[j], List.getElem?_eq_getElem im⟩
          obtain ⟨u, hu⟩ : ∃ u, ps1[j]? = some u := ⟨ps1[j], List.getElem?_eq_getElem (by omega)⟩
          obtain ⟨v, hv⟩ : ∃ v, ps2[j]? = some v := ⟨ps2[j], List.getElem?_eq_getElem (by omega)⟩
          have hdx : l.drop j = x :: l.drop (j + 1) := by rw [List.drop_eq_getElem_cons il]; rw [List.getElem?_eq_getElem il] at hx; rw [Option.some.inj hx]
          have hdy : m.drop j = y :: m.drop (j + 1) := by rw [List.drop_eq_getElem_cons im]; rw [List.getElem?_eq_getElem im] at hy; rw [Option.some.inj hy]
          have hwx : wf d x = true := List.all_eq_true.1 HWL.out x (List.mem_of_getElem? hx)
          have hwy : wf d y = true := List.all_eq_true.1 HWM.out y (List.mem_of_getElem? hy)
          have hux : bs u = enc x := by
            have := congrArg (·[j]?) HP1.out
            simp only [List.getElem?_map, hu, hx, Option.map_some, Option.some.injEq] at this
            exact this
          have hvy : bs v = enc y := by
            have := congrArg (·[j]?) HP2.out
            simp only [List.getElem?_map, hv, hy, Option.map_some, Option.some.injEq] at this
            exact this
          have hzu : u.size ≤ 1048576 := by rw [← bs_size, hux]; exact HZL.out x (List.mem_of_getElem? hx)
          have hzv : v.size ≤ 1048576 := by rw [← bs_size, hvy]; exact HZM.out y (List.mem_of_getElem? hy)
          have HC := Lib.hid (fun w => HIH.out u v x y hwx hwy hux hvy hzu hzv w)
          obtain ⟨b5, o5, hA1, hb5, hc5⟩ := at1s hR1.out (i := j) (u := .string u) (by rw [List.getElem?_map, hu]; rfl)
          obtain ⟨b6, o6, hA2, hb6, hc6⟩ := at1s hR2.out (i := j) (u := .string v) (by rw [List.getElem?_map, hv]; rfl)
          have HO1 : Hid (ord (d + 1) (.comp k l) (.comp k m) = if ord d x y ≠ 0 then ord d x y else ord.ordL (ord d) (l.drop (j + 1)) (m.drop (j + 1))) := Lib.hid (by
            rw [hO.out, hdx, hdy]
            conv => lhs; unfold ord.ordL)
          subst hA1
          subst hA2
          clear hx hy hu hv hdx hdy hwx hwy hux hvy hO
          go_wp2_with fail
          have fd0 : Hid (wr.drew.cell? ⟨b5, o5 + j, none⟩ = some (.string u)) := hc5
          have fd1 : Hid (wr.drew.cell? ⟨b6, o6 + j, none⟩ = some (.string v)) := hc6
          have HBd : Hid (Below w.heap.size w wr.drew) := below_drew hB.out
          have HRd : Hid (InC wr.drew (some ⟨b5, o5, none⟩) (ps1.map Value.string)) := hR1.out.drew
          have HSd : Hid (InC wr.drew (some ⟨b6, o6, none⟩) (ps2.map Value.string)) := hR2.out.drew
          have hb5d : b5 < wr.drew.heap.size := hb5
          have hb6d : b6 < wr.drew.heap.size := hb6
          refine wp_region_noPanic ?_
          refine wp_region_held_drew (S := fun W => W.cell? ⟨b5, o5 + j, none⟩ = some (.string u) ∧ W.cell? ⟨b6, o6 + j, none⟩ = some (.string v)) (by kernel_rfl) ⟨fd0, fd1⟩ (fun _ => ?_)
          generalize wr.drew = wd at *
          try simp only [Act.put, List.setIfInBounds_toArray, List.set_cons_zero, List.set_cons_succ]
          refine wpAnyH_take (i := 0) (oi := { dst := some 91, op := Op.move (Operand.tmp 8), type := 36, pos := "value.go:272", after := #[], guard := none }) (v := ?_) rfl (by kernel_rfl) (by kernel_rfl) (by kernel_rfl) (fun _ _ _ h => h) (Or.inl ⟨by rfl, ?_⟩) ⟨fd0, fd1⟩ ?_
          rotate_left 1
          · intro w hSw
            obtain ⟨hSw0, hSw1⟩ := hSw
            go_simp
            first
              | done
              | with_reducible rfl
              | rw [if_neg (by omega)]
          try simp only [Act.put, List.setIfInBounds_toArray, List.set_cons_zero, List.set_cons_succ]
          refine wpAnyH_take (i := 1) (oi := { dst := some 92, op := Op.move (Operand.tmp 13), type := 3, pos := "value.go:272", after := #[], guard := none }) (v := ?_) rfl (by kernel_rfl) (by kernel_rfl) (by kernel_rfl) (fun _ _ _ h => h) (Or.inl ⟨by rfl, ?_⟩) ⟨fd0, fd1⟩ ?_
          rotate_left 1
          · intro w hSw
            obtain ⟨hSw0, hSw1⟩ := hSw
            go_simp
            first
              | done
              | with_reducible rfl
              | rw [if_neg (by omega)]
          try simp only [Act.put, List.setIfInBounds_toArray, List.set_cons_zero, List.set_cons_succ]
          refine wpAnyH_take (i := 2) (oi := { dst := some 93, op := Op.indexAddr 36 (Operand.tmp 91) (Operand.tmp 92), type := 0, pos := "value.go:272", after := #[{ on := 0, ground := Ground.data }, { on := 1, ground := Ground.data }], guard := none }) (v := ?_) rfl (by kernel_rfl) (by kernel_rfl) (by kernel_rfl) (fun _ _ _ h => h) (Or.inl ⟨by rfl, ?_⟩) ⟨fd0, fd1⟩ ?_
          rotate_left 1
          · intro w hSw
            obtain ⟨hSw0, hSw1⟩ := hSw
            go_simp
            first
              | done
              | with_reducible rfl
              | rw [if_neg (by omega)]
          try simp only [Act.put, List.setIfInBounds_toArray, List.set_cons_zero, List.set_cons_succ]
          refine wpAnyH_take (i := 3) (oi := { dst := some 94, op := Op.load 22 (Operand.tmp 93), type := 22, pos := "value.go:272", after := #[{ on := 2, ground := Ground.data }], guard := none }) (v := ?_) rfl (by kernel_rfl) (by kernel_rfl) (by kernel_rfl) (fun _ _ _ h => h) (Or.inl ⟨by rfl, ?_⟩) ⟨fd0, fd1⟩ ?_
          rotate_left 1
          · intro w hSw
            obtain ⟨hSw0, hSw1⟩ := hSw
            go_simp
            first
              | done
              | with_reducible rfl
              | rw [if_neg (by omega)]
          try simp only [Act.put, List.setIfInBounds_toArray, List.set_cons_zero, List.set_cons_succ]
          refine wpAnyH_take (i := 4) (oi := { dst := some 95, op := Op.move (Operand.tmp 11), type := 36, pos := "value.go:272", after := #[], guard := none }) (v := ?_) rfl (by kernel_rfl) (by kernel_rfl) (by kernel_rfl) (fun _ _ _ h => h) (Or.inl ⟨by rfl, ?_⟩) ⟨fd0, fd1⟩ ?_
          rotate_left 1
          · intro w hSw
            obtain ⟨hSw0, hSw1⟩ := hSw
            go_simp
            first
              | done
              | with_reducible rfl
              | rw [if_neg (by omega)]
          try simp only [Act.put, List.setIfInBounds_toArray, List.set_cons_zero, List.set_cons_succ]
          refine wpAnyH_take (i := 5) (oi := { dst := some 96, op := Op.move (Operand.tmp 13), type := 3, pos := "value.go:272", after := #[], guard := none }) (v := ?_) rfl (by kernel_rfl) (by kernel_rfl) (by kernel_rfl) (fun _ _ _ h => h) (Or.inl ⟨by rfl, ?_⟩) ⟨fd0, fd1⟩ ?_
          rotate_left 1
          · intro w hSw
            obtain ⟨hSw0, hSw1⟩ := hSw
            go_simp
            first
              | done
              | with_reducible rfl
              | rw [if_neg (by omega)]
          try simp only [Act.put, List.setIfInBounds_toArray, List.set_cons_zero, List.set_cons_succ]
          refine wpAnyH_take (i := 6) (oi := { dst := some 97, op := Op.indexAddr 36 (Operand.tmp 95) (Operand.tmp 96), type := 0, pos := "value.go:272", after := #[{ on := 4, ground := Ground.data }, { on := 5, ground := Ground.data }], guard := none }) (v := ?_) rfl (by kernel_rfl) (by kernel_rfl) (by kernel_rfl) (fun _ _ _ h => h) (Or.inl ⟨by rfl, ?_⟩) ⟨fd0, fd1⟩ ?_
          rotate_left 1
          · intro w hSw
            obtain ⟨hSw0, hSw1⟩ := hSw
            go_simp
            first
              | done
              | with_reducible rfl
              | rw [if_neg (by omega)]
          try simp only [Act.put, List.setIfInBounds_toArray, List.set_cons_zero, List.set_cons_succ]
          refine wpAnyH_take (i := 7) (oi := { dst := some 98, op := Op.load 22 (Operand.tmp 97), type := 22, pos := "value.go:272", after := #[{ on := 6, ground := Ground.data }], guard := none }) (v := ?_) rfl (by kernel_rfl) (by kernel_rfl) (by kernel_rfl) (fun _ _ _ h => h) (Or.inl ⟨by rfl, ?_⟩) ⟨fd0, fd1⟩ ?_
          rotate_left 1
          · intro w hSw
            obtain ⟨hSw0, hSw1⟩ := hSw
            go_simp
            first
              | done
              | with_reducible rfl
              | rw [if_neg (by omega)]
          try simp only [Act.put, List.setIfInBounds_toArray, List.set_cons_zero, List.set_cons_succ]
          refine wpAnyH_ready (rs := [8]) (by kernel_rfl) (by simp) ?_
          refine AllReadyH.cons (o := { dst := some 99, op := Op.call { callee := Callee.value (Operand.func 57), args := #[Operand.tmp 94, Operand.tmp 98], argTypes := #[22, 22] }, type := 3, pos := "value.go:272", after := #[{ on := 3, ground := Ground.data }, { on := 7, ground := Ground.data }], guard := none }) rfl (fun K hK => ?_) AllReadyH.nil
          go_simp
          go_at_call 57
          refine (HC.out wd).mono ?_
          rintro e w503 ⟨rfl, hb⟩
          have HB9 := hide ((unhide HBd).trans (hb.mono (unhide HBd).size))
          have HR8 := hide ((unhide HRd).below hb)
          have HR9 := hide ((unhide HSd).below hb)
          have e5 := (hb.cell (p := ⟨b5, o5 + j, none⟩) hb5d).trans (unhide fd0)
          have e6 := (hb.cell (p := ⟨b6, o6 + j, none⟩) hb6d).trans (unhide fd1)
          clear hb HBd HRd HSd
          try dsimp only
          refine hK.out _ _ ⟨e5, e6⟩ (fun _ => ?_)
          clear hK K
          try simp only [Act.put, List.setIfInBounds_toArray, List.set_cons_zero, List.set_cons_succ]
          refine wpAnyH_take (i := 9) (oi := { dst := some 14, op := Op.assign (Operand.tmp 99), type := 3, pos := "value.go:272", after := #[{ on := 8, ground := Ground.data }, { on := 8, ground := Ground.chain }, { on := 0, ground := Ground.phase }, { on := 1, ground := Ground.phase }, { on := 2, ground := Ground.phase }, { on := 3, ground := Ground.phase }, { on := 4, ground := Ground.phase }, { on := 5, ground := Ground.phase }, { on := 6, ground := Ground.phase }, { on := 7, ground := Ground.phase }, { on := 8, ground := Ground.phase }], guard := none }) (v := ?_) rfl (by kernel_rfl) (by kernel_rfl) (by kernel_rfl) (fun _ _ _ h => h) (Or.inl ⟨by rfl, ?_⟩) ⟨e5, e6⟩ ?_
          rotate_left 1
          · intro w hSw
            obtain ⟨hSw0, hSw1⟩ := hSw
            go_simp
            first
              | done
              | with_reducible rfl
              | rw [if_neg (by omega)]
          try simp only [Act.put, List.setIfInBounds_toArray, List.set_cons_zero, List.set_cons_succ]
          refine wpAnyH_done (by kernel_rfl) ?_ _
          refine NoPanic.normal ?_
          clear HC hb5d hb6d fd0 fd1 hb5 hb6 hc5 hc6 hR1 hR2 hB
          by_cases hz : ord d x y = 0
          · have HO2 : Hid (ord (d + 1) (.comp k l) (.comp k m) = ord.ordL (ord d) (l.drop (j + 1)) (m.drop (j + 1))) := Lib.hid (by rw [HO1.out, if_neg (by simpa using hz)])
            rw [hz]
            clear HO1 hz
            go_wp2_with fail
            go_roundw
            case rel => exact ⟨j + 1, by go_num, by omega, by omega, unhide HR8, unhide HR9, HO2.out, unhide HB9⟩
            case measure => simp [intOf]; omega
          · have g1 : (ord d x y == 0) = false := beq_eq_false_iff_ne.2 hz
            have HO2 : Hid (ord (d + 1) (.comp k l) (.comp k m) = ord d x y) := Lib.hid (by rw [HO1.out, if_pos hz])
            clear hz HO1
            go_wp2_with fail
            go_ret
            exact ⟨by rw [HO2.out]; rfl, unhide HB9⟩
        · have hend : l.drop j = [] ∨ m.drop j = [] := by
            by_cases q : j < l.length
            · exact .inr (List.drop_eq_nil_of_le (by omega))
            · exact .inl (List.drop_eq_nil_of_le (by omega))
          have HOE : Hid (ord (d + 1) (.comp k l) (.comp k m) = sgn (l.length : Nat) (m.length : Nat)) := Lib.hid (by rw [hO.out, ordL_end _ _ _ hend, sgn_drop l m j hi1 hi2])
          have hne : ¬ (j < l.length ∧ j < m.length) := hil
          clear hend hO
          go_wp2_with fail
          all_goals
            refine (rsign_any _ _ _).mono ?_
            rintro e w7 ⟨rfl, rfl⟩
            go_wp2_with fail
          all_goals
            go_ret
            exact ⟨by rw [HOE.out]; exact ret_i (by unfold sgn; repeat' split
                                                    all_goals omega), hB.out⟩
  · have hkn : ((x.kind.toNat : Int) == (y.kind.toNat : Int)) = false := beq_eq_false_iff_ne.2 (kind_ne hk)
    have HO : Hid (ord (d + 1) x y = sgn (x.kind.toNat : Int) (y.kind.toNat : Int)) := Lib.hid (ord_kind hk)
    have HKN := Lib.hid (kind_ne hk)
    clear hk zs zt hxy
    go_enter Tryz.func57, Tryz.ntmps57
    go_wp2_with fail
    go_quiet (fail)
    have HBq : Hid (Below w.heap.size w (w.drewN nq)) := below_drewN (Below.refl _ _) nq
    generalize w.drewN nq = wq at *
    go_wp2_with fail
    have HBd : Hid (Below w.heap.size w wq.drew) := below_drew HBq.out
    refine wp_region_noPanic ?_
    refine wp_region_held_drew (S := fun W => True) (by kernel_rfl) trivial (fun _ => ?_)
    generalize wq.drew = wd at *
    try simp only [Act.put, List.setIfInBounds_toArray, List.set_cons_zero, List.set_cons_succ]
    refine wpAnyH_take (i := 0) (oi := { dst := some 25, op := Op.move (Operand.tmp 0), type := 22, pos := "value.go:262", after := #[], guard := none }) (v := ?_) rfl (by kernel_rfl) (by kernel_rfl) (by kernel_rfl) (fun _ _ _ h => h) (Or.inl ⟨by rfl, ?_⟩) trivial ?_
    rotate_left 1
    · intro w hSw
      try dsimp only at hSw
      go_simp
      first
        | done
        | with_reducible rfl
        | rw [if_neg (by omega)]
    try simp only [Act.put, List.setIfInBounds_toArray, List.set_cons_zero, List.set_cons_succ]
    refine wpAnyH_take (i := 1) (oi := { dst := some 26, op := Op.index 22 (Operand.tmp 25) (Operand.const (Value.int IntKind.i64 0)), type := 5, pos := "value.go:262", after := #[{ on := 0, ground := Ground.data }], guard := none }) (v := ?_) rfl (by kernel_rfl) (by kernel_rfl) (by kernel_rfl) (fun _ _ _ h => h) (Or.inl ⟨by rfl, ?_⟩) trivial ?_
    rotate_left 1
    · intro w hSw
      try dsimp only at hSw
      go_simp
      first
        | done
        | with_reducible rfl
        | rw [if_neg (by omega)]
    try simp only [Act.put, List.setIfInBounds_toArray, List.set_cons_zero, List.set_cons_succ]
    refine wpAnyH_take (i := 2) (oi := { dst := some 27, op := Op.move (Operand.tmp 1), type := 22, pos := "value.go:262", after := #[], guard := none }) (v := ?_) rfl (by kernel_rfl) (by kernel_rfl) (by kernel_rfl) (fun _ _ _ h => h) (Or.inl ⟨by rfl, ?_⟩) trivial ?_
    rotate_left 1
    · intro w hSw
      try dsimp only at hSw
      go_simp
      first
        | done
        | with_reducible rfl
        | rw [if_neg (by omega)]
    try simp only [Act.put, List.setIfInBounds_toArray, List.set_cons_zero, List.set_cons_succ]
    refine wpAnyH_take (i := 3) (oi := { dst := some 28, op := Op.index 22 (Operand.tmp 27) (Operand.const (Value.int IntKind.i64 0)), type := 5, pos := "value.go:262", after := #[{ on := 2, ground := Ground.data }], guard := none }) (v := ?_) rfl (by kernel_rfl) (by kernel_rfl) (by kernel_rfl) (fun _ _ _ h => h) (Or.inl ⟨by rfl, ?_⟩) trivial ?_
    rotate_left 1
    · intro w hSw
      try dsimp only at hSw
      go_simp
      first
        | done
        | with_reducible rfl
        | rw [if_neg (by omega)]
    try simp only [Act.put, List.setIfInBounds_toArray, List.set_cons_zero, List.set_cons_succ]
    refine wpAnyH_take (i := 4) (oi := { dst := some 29, op := Op.binOp BinOp.lss 5 (Operand.tmp 26) (Operand.tmp 28) 5, type := 4, pos := "value.go:262", after := #[{ on := 1, ground := Ground.data }, { on := 3, ground := Ground.data }], guard := none }) (v := ?_) rfl (by kernel_rfl) (by kernel_rfl) (by kernel_rfl) (fun _ _ _ h => h) (Or.inl ⟨by rfl, ?_⟩) trivial ?_
    rotate_left 1
    · intro w hSw
      try dsimp only at hSw
      go_simp
      first
        | done
        | with_reducible rfl
        | rw [if_neg (by omega)]
    try simp only [Act.put, List.setIfInBounds_toArray, List.set_cons_zero, List.set_cons_succ]
    refine wpAnyH_ready (rs := [5]) (by kernel_rfl) (by simp) ?_
    refine AllReadyH.cons (o := { dst := some 30, op := Op.call { callee := Callee.value (Operand.func 58), args := #[Operand.tmp 29, Operand.const (Value.bool true)], argTypes := #[4, 4] }, type := 3, pos := "value.go:262", after := #[{ on := 4, ground := Ground.data }], guard := none }) rfl (fun K hK => ?_) AllReadyH.nil
    go_simp
    go_at_call 58
    refine (rsign_any _ _ wd).mono ?_
    rintro e w504 ⟨rfl, rfl⟩
    try dsimp only
    refine hK.out _ _ trivial (fun _ => ?_)
    clear hK K
    try simp only [Act.put, List.setIfInBounds_toArray, List.set_cons_zero, List.set_cons_succ]
    refine wpAnyH_take (i := 6) (oi := { dst := some 4, op := Op.assign (Operand.tmp 30), type := 3, pos := "value.go:262", after := #[{ on := 5, ground := Ground.data }, { on := 5, ground := Ground.chain }, { on := 0, ground := Ground.phase }, { on := 1, ground := Ground.phase }, { on := 2, ground := Ground.phase }, { on := 3, ground := Ground.phase }, { on := 4, ground := Ground.phase }, { on := 5, ground := Ground.phase }], guard := none }) (v := ?_) rfl (by kernel_rfl) (by kernel_rfl) (by kernel_rfl) (fun _ _ _ h => h) (Or.inl ⟨by rfl, ?_⟩) trivial ?_
    rotate_left 1
    · intro w hSw
      try dsimp only at hSw
      go_simp
      first
        | done
        | with_reducible rfl
        | rw [if_neg (by omega)]
    try simp only [Act.put, List.setIfInBounds_toArray, List.set_cons_zero, List.set_cons_succ]
    refine wpAnyH_done (by kernel_rfl) ?_ _
    refine NoPanic.normal ?_
    go_wp2_with fail
    all_goals
      go_ret
      have hkn2 := HKN.out
      exact ⟨by rw [HO.out]; exact ret_i (by unfold sgn; repeat' split
                                             all_goals omega), unhide HBd⟩
theorem or_any : ∀ d, d ≤ 32 → OrCon d
  | 0, _ => fun s t x y hx => by cases hx
  | d + 1, h => or_up d h (or_any d (by omega))

end Go.Proofs.YtaambeficfiacaaGreatDoor
