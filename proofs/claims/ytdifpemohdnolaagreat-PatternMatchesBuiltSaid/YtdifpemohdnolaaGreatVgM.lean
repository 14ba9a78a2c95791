/- The statements' values: they are values, nested at most so deep and at most so long. No program in it. No conditions. -/
import Derived.Test.YtdifpemohdnolaaGreatVsD
import Derived.Deep.RegionHeld3
namespace Go.Proofs.YtdifpemohdnolaaGreat
open Go.RowKit VM

theorem step_app {P : Program} {w : World} {ops : Array Oper} {o : Oper} {a : Act} {K : Act → World → Prop} {Q : Exit → Act → World → Prop} {E : Prop} (hgd : o.guard = none) (s x : Operand) (t : TypeId)
    (ho : o.op = .call { callee := .builtin .append, args := #[s, x], argTypes := #[t, t] })
    (base : Nat) (e : TypeId) (i : TypeInfo) (z : Value) (size bytes : Nat) (ht : P.underlying t = some (.slice e)) (hi : P.info? e = some i) (hz : i.zero = some z)
    (hsize : i.size = size) (hby : i.bytes = bytes) (hzs : z.cells.size = size) (hsz : 0 < size)
    (v : Value) (n : Nat) (xs : List Value) (hs : a.eval s = v) (hown : w.ownsRow base e size v n xs)
    (A : Option Addr) (m c : Nat) (news : List Value) (hx : a.eval x = .slice A m c) (hl : news.length = m * size) (hr : InC w A news) (h1 : ∀ u ∈ news, u.oneCell' = true)
    (h63 : n + m ≤ maxLen) (hbytes : (n + m) * bytes ≤ 140737488355328) (hbase : base ≤ w.heap.size)
    (h : ∀ v' w', w'.ownsRow base e size v' (n + m) (xs ++ news) → w.grownBy w' v.ownBlock → (v'.ownBlock = v.ownBlock ∨ v'.ownBlock = some w.heap.size) → K (a.put o.dst v') w') : if Region.wanted o (yielded ops a.tmps) = true then Oper.wp P o a w K Q else E := by
  have hw2 : Region.wanted o (yielded ops a.tmps) = true := by simp [Region.wanted, hgd]
  rw [if_pos hw2]
  exact wp_app w s x t ho base e i z size bytes ht hi hz hsize hby hzs hsz v n xs hs hown A m c news hx hl hr h1 h63 hbytes hbase h

/-- append as an operation whose guard says that it is wanted -/
theorem wpList_app_w {P : Program} {w : World} {ops : Array Oper} {rest : List Oper} {o : Oper} {a : Act} {Q : Exit → Act → World → Prop} (hwt : Region.wanted o (yielded ops a.tmps) = true) (s x : Operand) (t : TypeId)
    (ho : o.op = .call { callee := .builtin .append, args := #[s, x], argTypes := #[t, t] })
    (base : Nat) (e : TypeId) (i : TypeInfo) (z : Value) (size bytes : Nat) (ht : P.underlying t = some (.slice e)) (hi : P.info? e = some i) (hz : i.zero = some z)
    (hsize : i.size = size) (hby : i.bytes = bytes) (hzs : z.cells.size = size) (hsz : 0 < size)
    (v : Value) (n : Nat) (xs : List Value) (hs : a.eval s = v) (hown : w.ownsRow base e size v n xs)
    (A : Option Addr) (m c : Nat) (news : List Value) (hx : a.eval x = .slice A m c) (hl : news.length = m * size) (hr : InC w A news) (h1 : ∀ u ∈ news, u.oneCell' = true)
    (h63 : n + m ≤ maxLen) (hbytes : (n + m) * bytes ≤ 140737488355328) (hbase : base ≤ w.heap.size)
    (h : ∀ v' w', w'.ownsRow base e size v' (n + m) (xs ++ news) → w.grownBy w' v.ownBlock → (v'.ownBlock = v.ownBlock ∨ v'.ownBlock = some w.heap.size) → wpList P ops Q rest (a.put o.dst v') w') : wpList P ops Q (o :: rest) a w :=
  wpList_step fun _ hK => by
    rw [if_pos hwt]
    exact wp_app w s x t ho base e i z size bytes ht hi hz hsize hby hzs hsz v n xs hs hown A m c news hx hl hr h1 h63 hbytes hbase fun v' w' h2 h3 h4 => hK _ _ (h v' w' h2 h3 h4)
/-- what the pairs with the key x give -/
def inn (x : ByteArray) (zs : List (ByteArray × ByteArray)) : List ByteArray := (zs.filter fun p => decide (p.1 = x)).flatMap fun p => [x, p.2]
def mpL (s : List ByteArray) (zs : List (ByteArray × ByteArray)) : List ByteArray := s.flatMap fun x => inn x zs
theorem inn_step {x k v : ByteArray} {zs : List (ByteArray × ByteArray)} {i : Nat} (h : zs[i]? = some (k, v)) : inn x (zs.take (i + 1)) = inn x (zs.take i) ++ (if k = x then [x, v] else []) := by
  unfold inn
  rw [List.take_add_one, h, List.filter_append, List.flatMap_append]
  congr 1
  by_cases e : k = x
  · subst e; simp
  · simp [e]
theorem inn_len (x : ByteArray) (zs : List (ByteArray × ByteArray)) : (inn x zs).length ≤ 2 * zs.length := by
  unfold inn
  induction zs with
  | nil => simp
  | cons p l ih =>
    rw [List.filter_cons]
    split
    · have h2 : [x, p.2].length = 2 := rfl
      rw [List.flatMap_cons, List.length_append, h2, List.length_cons]; omega
    · rw [List.length_cons]; omega
theorem mpL_step {s : List ByteArray} {zs : List (ByteArray × ByteArray)} {i : Nat} {x : ByteArray} (h : s[i]? = some x) : mpL (s.take (i + 1)) zs = mpL (s.take i) zs ++ inn x zs := by
  unfold mpL
  rw [List.take_add_one, h, List.flatMap_append]
  simp
theorem mpL_len (s : List ByteArray) (zs : List (ByteArray × ByteArray)) : (mpL s zs).length ≤ s.length * (2 * zs.length) := by
  unfold mpL
  induction s with
  | nil => simp
  | cons a l ih =>
    rw [List.flatMap_cons, List.length_append, List.length_cons, Nat.add_mul]
    have := inn_len a zs
    omega
theorem mpL_mem {s : List ByteArray} {zs : List (ByteArray × ByteArray)} {u : ByteArray} (h : u ∈ mpL s zs) : u ∈ s ∨ ∃ p ∈ zs, u = p.2 := by
  unfold mpL inn at h
  obtain ⟨x, hx, h⟩ := List.mem_flatMap.1 h
  obtain ⟨p, hp, h⟩ := List.mem_flatMap.1 h
  simp at h
  rcases h with rfl | rfl
  · exact .inl hx
  · exact .inr ⟨p, (List.mem_filter.1 hp).1, rfl⟩
/-- the map of some keys and values, or the empty string -/
def mapM (ks vs : List ByteArray) : ByteArray := if ks.length = vs.length ∧ ks.all (valB 32) = true ∧ vs.all (valB 32) = true ∧ (sortM ks).length = ks.length then mkM 6 (mpL (sortM ks) (ks.zip vs)) else ⟨#[]⟩
theorem two_str (s t : ByteArray) : ∀ x ∈ [Value.string s, Value.string t], x.oneCell' = true := by
  intro x hx; simp at hx; rcases hx with rfl | rfl <;> rfl
set_option linter.unusedSimpArgs false in
set_option maxRecDepth 100000 in
set_option maxHeartbeats 6400000 in
theorem rmap_any (ks vs : List ByteArray) (A B : Option Addr) (n m ca cb : Nat) (w : World) (hn : n = ks.length) (hm : m = vs.length) (hn1 : n ≤ 1048576) (hm1 : m ≤ 1048576) (hks : ∀ s ∈ ks, s.size ≤ 281474976710656) (hvs : ∀ s ∈ vs, s.size ≤ 281474976710656)
    (hr : InC w A (ks.map Value.string)) (hr2 : InC w B (vs.map Value.string)) :
    Calls Tryz.prog 33 #[.slice A n ca, .slice B m cb] w fun e w' => e = .returned (.string (mapM ks vs)) ∧ Below w.heap.size w w' := by
  have HA1 := Lib.hid (fun w hr => rall_any ks A n ca w hn (by omega) hks hr)
  have HA2 := Lib.hid (fun w hr => rall_any vs B m cb w hm (by omega) hvs hr)
  have HST := Lib.hid (fun w hr => rsort_any ks A n ca w hn hn1 hks hr)
  have HR := hide hr
  have HR2 := hide hr2
  have HN := Lib.hid hn
  have HMN := Lib.hid hm
  clear hr hr2 hn hm hks hvs
  by_cases hnm : n = m
  rotate_left 1
  · have HM : Hid (mapM ks vs = ⟨#[]⟩) := Lib.hid (by unfold mapM; rw [if_neg (fun q => hnm (by rw [HN.out, HMN.out]; exact q.1))])
    have g : ((n : Int) == (m : Int)) = false := beq_eq_false_iff_ne.2 (by omega)
    go_enter Tryz.func33, Tryz.ntmps33
    go_wp2_with fail
    go_ret
    exact ⟨by rw [HM.out]; rfl, Below.refl _ _⟩
  subst hnm
  cases hz1 : ks.all (valB 32) with
  | false =>
    have HM : Hid (mapM ks vs = ⟨#[]⟩) := Lib.hid (by unfold mapM; rw [if_neg (fun q => by have := q.2.1; rw [hz1] at this; cases this)])
    rw [hz1] at HA1
    clear hz1
    go_enter Tryz.func33, Tryz.ntmps33
    go_wp2_with fail
    refine (HA1.out _ (unhide HR)).mono ?_
    rintro e w3 ⟨rfl, hb3⟩
    have HB3 := hide hb3
    clear hb3
    go_wp2_with fail
    go_ret
    exact ⟨by rw [HM.out]; rfl, unhide HB3⟩
  | true =>
  rw [hz1] at HA1
  have HZ1 := Lib.hid hz1
  clear hz1
  cases hz2 : vs.all (valB 32) with
  | false =>
    have HM : Hid (mapM ks vs = ⟨#[]⟩) := Lib.hid (by unfold mapM; rw [if_neg (fun q => by have := q.2.2.1; rw [hz2] at this; cases this)])
    rw [hz2] at HA2
    clear hz2
    go_enter Tryz.func33, Tryz.ntmps33
    go_wp2_with fail
    refine (HA1.out _ (unhide HR)).mono ?_
    rintro e w3 ⟨rfl, hb3⟩
    have HB3 := hide hb3
    have HR3 := hide ((unhide HR2).below hb3)
    clear hb3
    go_wp2_with fail
    refine (HA2.out _ (unhide HR3)).mono ?_
    rintro e w4 ⟨rfl, hb4⟩
    have HB4 := hide ((unhide HB3).trans (hb4.mono (unhide HB3).size))
    clear hb4
    go_wp2_with fail
    go_ret
    exact ⟨by rw [HM.out]; rfl, unhide HB4⟩
  | true =>
  rw [hz2] at HA2
  have HZ2 := Lib.hid hz2
  have HMM : Hid (mapM ks vs = if (sortM ks).length = n then mkM 6 (mpL (sortM ks) (ks.zip vs)) else ⟨#[]⟩) := Lib.hid (by
    unfold mapM
    have h1 : ks.length = vs.length := by rw [← HN.out, ← HMN.out]
    rw [← HN.out]
    by_cases h : (sortM ks).length = n
    · rw [if_pos ⟨by rw [HN.out]; exact h1, HZ1.out, hz2, h⟩, if_pos h]
    · rw [if_neg (fun q => h q.2.2.2), if_neg h])
  have HSM : Hid (∀ u, u ∈ sortM ks ↔ u ∈ ks) := Lib.hid fun u => sortM_mem
  have HSL : Hid ((sortM ks).length ≤ n) := Lib.hid (by rw [HN.out]; exact sortM_len ks)
  clear hz2
  generalize sortM ks = so at *
  obtain ⟨i0, hi0, hiz0, hiz1, hiz2⟩ := info_parts val_info
  go_enter Tryz.func33, Tryz.ntmps33
  go_wp2_with fail
  refine (HA1.out _ (unhide HR)).mono ?_
  rintro e w3 ⟨rfl, hb3⟩
  have HB3 := hide hb3
  have HR3 := hide ((unhide HR2).below hb3)
  clear hb3
  go_wp2_with fail
  refine (HA2.out _ (unhide HR3)).mono ?_
  rintro e w4 ⟨rfl, hb4⟩
  have HB4 := hide ((unhide HB3).trans (hb4.mono (unhide HB3).size))
  have HR4 := hide ((unhide HR).below (unhide HB4))
  clear hb4 HB3 HR3
  go_wp2_with fail
  refine (HST.out _ (unhide HR4)).mono ?_
  rintro e w5 ⟨C5, c5, L, rfl, hL, hO5, hb5⟩
  have HB5 := hide ((unhide HB4).trans (hb5.mono (unhide HB4).size))
  have HIS := hide (InC.own hO5)
  have HL := Lib.hid hL
  have hL1 : L ≤ n := by rw [hL]; exact HSL.out
  have HRa := hide ((unhide HR).below (unhide HB5))
  have HRb := hide ((unhide HR2).below (unhide HB5))
  clear hb5 hO5 HB4 HR4 hL
  by_cases hLn : L = n
  rotate_left 1
  · have HM : Hid (mapM ks vs = ⟨#[]⟩) := Lib.hid (by rw [HMM.out, if_neg (by rw [← HL.out]; exact hLn)])
    have g : ((L : Int) == (n : Int)) = false := beq_eq_false_iff_ne.2 (by omega)
    go_wp2_with fail
    go_ret
    exact ⟨by rw [HM.out]; rfl, unhide HB5⟩
  subst hLn
  have HM : Hid (mapM ks vs = mkM 6 (mpL so (ks.zip vs))) := Lib.hid (by rw [HMM.out, if_pos HL.out.symm])
  have HZL : Hid ((ks.zip vs).length = L) := Lib.hid (by rw [List.length_zip, ← HN.out, ← HMN.out, Nat.min_self])
  have HZA : Hid (∀ j k v, ks[j]? = some k → vs[j]? = some v → (ks.zip vs)[j]? = some (k, v)) := Lib.hid fun j k v h1 h2 => by rw [List.getElem?_zip_eq_some]; exact ⟨h1, h2⟩
  have HZV : Hid (∀ p ∈ ks.zip vs, p.2 ∈ vs) := Lib.hid fun p hp => (List.of_mem_zip (a := p.1) (b := p.2) hp).2
  generalize ks.zip vs = zs at *
  clear HMM hL1
  have hLL : L * (2 * L) ≤ 1048576 * (2 * 1048576) := Nat.mul_le_mul hn1 (by omega)
  go_wp2_with fail
  go_loopw [6, 7] (fun lv iv wr => ∃ (j q : Nat) (xs : List ByteArray), iv = .int .i64 j ∧ j ≤ L ∧ q ≤ 2199023255552 ∧ Hid (q = xs.length) ∧ Hid (xs = mpL (so.take j) zs) ∧ Hid (wr.ownsRow w5.heap.size 23 1 lv q (xs.map Value.string)) ∧ Hid (Below w5.heap.size w5 wr)) (fun _ iv _ => L - (intOf iv).toNat)
  case atStart => exact ⟨0, 0, [], rfl, by omega, by omega, rfl, rfl, World.ownsRow_nil _ _ _ _, Below.refl _ _⟩
  case round =>
    obtain ⟨j, q, xs, rfl, hj, hq, hql, hxs, hO, hB⟩ := hrel
    obtain ⟨A6, c6, rfl⟩ := owns_form hO.out
    by_cases hjn : j < L
    · obtain ⟨x, hx⟩ : ∃ x, so[j]? = some x := ⟨so[j]'(by have := HL.out; omega), List.getElem?_eq_getElem _⟩
      have HX := Lib.hid hx
      have HXB : Hid (xs.length + 2 * L ≤ 2199023255552) := Lib.hid (by
        have h1 := mpL_len (so.take j) zs
        rw [← hxs.out, HZL.out] at h1
        have h2 : (so.take j).length * (2 * L) ≤ j * (2 * L) := Nat.mul_le_mul_right _ (by rw [List.length_take]; omega)
        have h3 : (j + 1) * (2 * L) ≤ L * (2 * L) := Nat.mul_le_mul_right _ (by omega)
        rw [Nat.add_mul] at h3
        omega)
      clear hx
      generalize wr = wo at *
      go_wp2_with fail
      go_loopw [6, 8] (fun lv kv wr => ∃ (i q : Nat) (ys : List ByteArray), kv = .int .i64 i ∧ i ≤ L ∧ q ≤ 2199023255552 ∧ Hid (q = ys.length) ∧ Hid (ys = xs ++ inn x (zs.take i)) ∧ Hid (wr.ownsRow w5.heap.size 23 1 lv q (ys.map Value.string)) ∧ Hid (Below w5.heap.size w5 wr)) (fun _ kv _ => L - (intOf kv).toNat)
      case atStart => exact ⟨0, q, xs, rfl, by omega, hq, hql.out, Lib.hid (by simp [inn]), hO.out, hB.out⟩
      case round =>
        obtain ⟨i, q2, ys, rfl, hi, hq2, hql2, hys, hO2, hB2⟩ := hrel
        obtain ⟨A7, c7, rfl⟩ := owns_form hO2.out
        clear hO hB
        by_cases hin : i < L
        · obtain ⟨k, hk⟩ : ∃ k, ks[i]? = some k := ⟨ks[i]'(by have := HN.out; omega), List.getElem?_eq_getElem _⟩
          obtain ⟨v, hv⟩ : ∃ v, vs[i]? = some v := ⟨vs[i]'(by have := HMN.out; omega), List.getElem?_eq_getElem _⟩
          have HPI := Lib.hid (HZA.out i k v hk hv)
          obtain ⟨b1, o1, hA1, hb1, hc1⟩ := at1s (unhide HRa) (i := i) (u := .string k) (by rw [List.getElem?_map, hk]; rfl)
          obtain ⟨b2, o2, hA2, hb2, hc2⟩ := at1s (unhide HRb) (i := i) (u := .string v) (by rw [List.getElem?_map, hv]; rfl)
          obtain ⟨b3, o3, hA3, hb3, hc3⟩ := at1s (unhide HIS) (i := j) (u := .string x) (by rw [List.getElem?_map, HX.out]; rfl)
          subst hA1 hA2 hA3
          have k1 : wr.cell? ⟨b1, o1 + i, none⟩ = some (.string k) := (hB2.out.cell (p := ⟨b1, o1 + i, none⟩) hb1).trans hc1
          have k2 : wr.cell? ⟨b2, o2 + i, none⟩ = some (.string v) := (hB2.out.cell (p := ⟨b2, o2 + i, none⟩) hb2).trans hc2
          have k3 : wr.cell? ⟨b3, o3 + j, none⟩ = some (.string x) := (hB2.out.cell (p := ⟨b3, o3 + j, none⟩) hb3).trans hc3
          have HC3 := Lib.hid hc3
          have HC2 := Lib.hid hc2
          have HLT3 := Lib.hid hb3
          have HLT2 := Lib.hid hb2
          clear hk hv hc1 hc2 hc3 hb1 hb2 hb3
          by_cases hkx : k = x
          · subst hkx
            have hee : (k.toList == k.toList) = true := beq_self_eq_true _
            go_wp2_with fail
            have fd0 : Hid (wr.drew.cell? ⟨b1, o1 + i, none⟩ = some (.string k)) := k1
            have fd1 : Hid (wr.drew.cell? ⟨b3, o3 + j, none⟩ = some (.string k)) := k3
            have HO8 := hide ((unhide hO2).drew)
            have HB8 := hide (below_drew (unhide hB2))
            have k2d : wr.drew.cell? ⟨b2, o2 + i, none⟩ = some (.string v) := k2
            clear hO2 hB2 k2
            refine wp_region_noPanic ?_
            refine wp_region_held_drew (S := fun W => W.cell? ⟨b1, o1 + i, none⟩ = some (.string k) ∧ W.cell? ⟨b3, o3 + j, none⟩ = some (.string k)) (by kernel_rfl) ⟨fd0, fd1⟩ (fun _ => ?_)
            generalize wr.drew = wd at *
            try simp only [Act.put, List.setIfInBounds_toArray, List.set_cons_zero, List.set_cons_succ]
            refine wpAnyH_take (i := 0) (oi := { dst := some 43, op := Op.move (Operand.tmp 0), type := 24, pos := "value.go:197", after := #[], guard := none }) (v := ?_) rfl (by kernel_rfl) (by kernel_rfl) (by kernel_rfl) (fun _ _ _ h => h) (Or.inl ⟨by rfl, ?_⟩) ⟨fd0, fd1⟩ ?_
            rotate_left 1
            · intro w hSw
              obtain ⟨hSw0, hSw1⟩ := hSw
              go_simp
              first
                | done
                | with_reducible rfl
                | rw [if_neg (by omega)]
            try simp only [Act.put, List.setIfInBounds_toArray, List.set_cons_zero, List.set_cons_succ]
            refine wpAnyH_take (i := 1) (oi := { dst := some 44, op := Op.move (Operand.tmp 8), type := 3, pos := "value.go:197", after := #[], guard := none }) (v := ?_) rfl (by kernel_rfl) (by kernel_rfl) (by kernel_rfl) (fun _ _ _ h => h) (Or.inl ⟨by rfl, ?_⟩) ⟨fd0, fd1⟩ ?_
            rotate_left 1
            · intro w hSw
              obtain ⟨hSw0, hSw1⟩ := hSw
              go_simp
              first
                | done
                | with_reducible rfl
                | rw [if_neg (by omega)]
            try simp only [Act.put, List.setIfInBounds_toArray, List.set_cons_zero, List.set_cons_succ]
            refine wpAnyH_take (i := 2) (oi := { dst := some 45, op := Op.indexAddr 24 (Operand.tmp 43) (Operand.tmp 44), type := 0, pos := "value.go:197", after := #[{ on := 0, ground := Ground.data }, { on := 1, ground := Ground.data }], guard := none }) (v := ?_) rfl (by kernel_rfl) (by kernel_rfl) (by kernel_rfl) (fun _ _ _ h => h) (Or.inl ⟨by rfl, ?_⟩) ⟨fd0, fd1⟩ ?_
            rotate_left 1
            · intro w hSw
              obtain ⟨hSw0, hSw1⟩ := hSw
              go_simp
              first
                | done
                | with_reducible rfl
                | rw [if_neg (by omega)]
            try simp only [Act.put, List.setIfInBounds_toArray, List.set_cons_zero, List.set_cons_succ]
            refine wpAnyH_take (i := 3) (oi := { dst := some 46, op := Op.load 23 (Operand.tmp 45), type := 23, pos := "value.go:197", after := #[{ on := 2, ground := Ground.data }], guard := none }) (v := ?_) rfl (by kernel_rfl) (by kernel_rfl) (by kernel_rfl) (fun _ _ _ h => h) (Or.inl ⟨by rfl, ?_⟩) ⟨fd0, fd1⟩ ?_
            rotate_left 1
            · intro w hSw
              obtain ⟨hSw0, hSw1⟩ := hSw
              go_simp
              first
                | done
                | with_reducible rfl
                | rw [if_neg (by omega)]
            try simp only [Act.put, List.setIfInBounds_toArray, List.set_cons_zero, List.set_cons_succ]
            refine wpAnyH_take (i := 4) (oi := { dst := some 47, op := Op.move (Operand.tmp 5), type := 24, pos := "value.go:197", after := #[], guard := none }) (v := ?_) rfl (by kernel_rfl) (by kernel_rfl) (by kernel_rfl) (fun _ _ _ h => h) (Or.inl ⟨by rfl, ?_⟩) ⟨fd0, fd1⟩ ?_
            rotate_left 1
            · intro w hSw
              obtain ⟨hSw0, hSw1⟩ := hSw
              go_simp
              first
                | done
                | with_reducible rfl
                | rw [if_neg (by omega)]
            try simp only [Act.put, List.setIfInBounds_toArray, List.set_cons_zero, List.set_cons_succ]
            refine wpAnyH_take (i := 5) (oi := { dst := some 48, op := Op.move (Operand.tmp 7), type := 3, pos := "value.go:197", after := #[], guard := none }) (v := ?_) rfl (by kernel_rfl) (by kernel_rfl) (by kernel_rfl) (fun _ _ _ h => h) (Or.inl ⟨by rfl, ?_⟩) ⟨fd0, fd1⟩ ?_
            rotate_left 1
            · intro w hSw
              obtain ⟨hSw0, hSw1⟩ := hSw
              go_simp
              first
                | done
                | with_reducible rfl
                | rw [if_neg (by omega)]
            try simp only [Act.put, List.setIfInBounds_toArray, List.set_cons_zero, List.set_cons_succ]
            refine wpAnyH_take (i := 6) (oi := { dst := some 49, op := Op.indexAddr 24 (Operand.tmp 47) (Operand.tmp 48), type := 0, pos := "value.go:197", after := #[{ on := 4, ground := Ground.data }, { on := 5, ground := Ground.data }], guard := none }) (v := ?_) rfl (by kernel_rfl) (by kernel_rfl) (by kernel_rfl) (fun _ _ _ h => h) (Or.inl ⟨by rfl, ?_⟩) ⟨fd0, fd1⟩ ?_
            rotate_left 1
            · intro w hSw
              obtain ⟨hSw0, hSw1⟩ := hSw
              go_simp
              first
                | done
                | with_reducible rfl
                | rw [if_neg (by omega)]
            try simp only [Act.put, List.setIfInBounds_toArray, List.set_cons_zero, List.set_cons_succ]
            refine wpAnyH_take (i := 7) (oi := { dst := some 50, op := Op.load 23 (Operand.tmp 49), type := 23, pos := "value.go:197", after := #[{ on := 6, ground := Ground.data }], guard := none }) (v := ?_) rfl (by kernel_rfl) (by kernel_rfl) (by kernel_rfl) (fun _ _ _ h => h) (Or.inl ⟨by rfl, ?_⟩) ⟨fd0, fd1⟩ ?_
            rotate_left 1
            · intro w hSw
              obtain ⟨hSw0, hSw1⟩ := hSw
              go_simp
              first
                | done
                | with_reducible rfl
                | rw [if_neg (by omega)]
            try simp only [Act.put, List.setIfInBounds_toArray, List.set_cons_zero, List.set_cons_succ]
            refine wpAnyH_take (i := 8) (oi := { dst := some 51, op := Op.binOp BinOp.eql 23 (Operand.tmp 46) (Operand.tmp 50) 23, type := 4, pos := "value.go:197", after := #[{ on := 3, ground := Ground.data }, { on := 7, ground := Ground.data }], guard := none }) (v := ?_) rfl (by kernel_rfl) (by kernel_rfl) (by kernel_rfl) (fun _ _ _ h => h) (Or.inl ⟨by rfl, ?_⟩) ⟨fd0, fd1⟩ ?_
            rotate_left 1
            · intro w hSw
              obtain ⟨hSw0, hSw1⟩ := hSw
              go_simp
              first
                | done
                | with_reducible rfl
                | rw [if_neg (by omega)]
            try simp only [Act.put, List.setIfInBounds_toArray, List.set_cons_zero, List.set_cons_succ]
            refine wpAnyH_done (by kernel_rfl) ?_ _
            refine NoPanic.normal ?_
            have ka : wd.cell? ⟨b3, o3 + j, none⟩ = some (.string k) := fd1.out
            clear fd0 fd1 k1 k3
            go_wp2_with fail
            have fg0 : Hid (wd.drew.cell? ⟨b3, o3 + j, none⟩ = some (.string k)) := ka
            have fg1 : Hid (wd.drew.cell? ⟨b2, o2 + i, none⟩ = some (.string v)) := k2d
            have HOd := hide ((unhide HO8).drew)
            have HBd := hide (below_drew (unhide HB8))
            clear HO8 HB8 k2d ka
            refine wp_region_noPanic ?_
            refine wp_region_held_drew (S := fun W => W.cell? ⟨b3, o3 + j, none⟩ = some (.string k) ∧ W.cell? ⟨b2, o2 + i, none⟩ = some (.string v)) (by kernel_rfl) ⟨fg0, fg1⟩ (fun _ => ?_)
            generalize wd.drew = we at *
            try simp only [Act.put, List.setIfInBounds_toArray, List.set_cons_zero, List.set_cons_succ]
            refine wpAnyH_take (i := 0) (oi := { dst := some 52, op := Op.move (Operand.tmp 6), type := 24, pos := "value.go:198", after := #[], guard := none }) (v := ?_) rfl (by kernel_rfl) (by kernel_rfl) (by kernel_rfl) (fun _ _ _ h => h) (Or.inl ⟨by rfl, ?_⟩) ⟨fg0, fg1⟩ ?_
            rotate_left 1
            · intro w hSw
              obtain ⟨hSw0, hSw1⟩ := hSw
              go_simp
              first
                | done
                | with_reducible rfl
                | rw [if_neg (by omega)]
            try simp only [Act.put, List.setIfInBounds_toArray, List.set_cons_zero, List.set_cons_succ]
            refine wpAnyH_take (i := 1) (oi := { dst := some 53, op := Op.move (Operand.tmp 5), type := 24, pos := "value.go:198", after := #[], guard := none }) (v := ?_) rfl (by kernel_rfl) (by kernel_rfl) (by kernel_rfl) (fun _ _ _ h => h) (Or.inl ⟨by rfl, ?_⟩) ⟨fg0, fg1⟩ ?_
            rotate_left 1
            · intro w hSw
              obtain ⟨hSw0, hSw1⟩ := hSw
              go_simp
              first
                | done
                | with_reducible rfl
                | rw [if_neg (by omega)]
            try simp only [Act.put, List.setIfInBounds_toArray, List.set_cons_zero, List.set_cons_succ]
            refine wpAnyH_take (i := 2) (oi := { dst := some 54, op := Op.move (Operand.tmp 7), type := 3, pos := "value.go:198", after := #[], guard := none }) (v := ?_) rfl (by kernel_rfl) (by kernel_rfl) (by kernel_rfl) (fun _ _ _ h => h) (Or.inl ⟨by rfl, ?_⟩) ⟨fg0, fg1⟩ ?_
            rotate_left 1
            · intro w hSw
              obtain ⟨hSw0, hSw1⟩ := hSw
              go_simp
              first
                | done
                | with_reducible rfl
                | rw [if_neg (by omega)]
            try simp only [Act.put, List.setIfInBounds_toArray, List.set_cons_zero, List.set_cons_succ]
            refine wpAnyH_take (i := 3) (oi := { dst := some 55, op := Op.indexAddr 24 (Operand.tmp 53) (Operand.tmp 54), type := 0, pos := "value.go:198", after := #[{ on := 1, ground := Ground.data }, { on := 2, ground := Ground.data }], guard := none }) (v := ?_) rfl (by kernel_rfl) (by kernel_rfl) (by kernel_rfl) (fun _ _ _ h => h) (Or.inl ⟨by rfl, ?_⟩) ⟨fg0, fg1⟩ ?_
            rotate_left 1
            · intro w hSw
              obtain ⟨hSw0, hSw1⟩ := hSw
              go_simp
              first
                | done
                | with_reducible rfl
                | rw [if_neg (by omega)]
            try simp only [Act.put, List.setIfInBounds_toArray, List.set_cons_zero, List.set_cons_succ]
            refine wpAnyH_take (i := 4) (oi := { dst := some 56, op := Op.load 23 (Operand.tmp 55), type := 23, pos := "value.go:198", after := #[{ on := 3, ground := Ground.data }], guard := none }) (v := ?_) rfl (by kernel_rfl) (by kernel_rfl) (by kernel_rfl) (fun _ _ _ h => h) (Or.inl ⟨by rfl, ?_⟩) ⟨fg0, fg1⟩ ?_
            rotate_left 1
            · intro w hSw
              obtain ⟨hSw0, hSw1⟩ := hSw
              go_simp
              first
                | done
                | with_reducible rfl
                | rw [if_neg (by omega)]
            try simp only [Act.put, List.setIfInBounds_toArray, List.set_cons_zero, List.set_cons_succ]
            refine wpAnyH_take (i := 5) (oi := { dst := some 57, op := Op.move (Operand.tmp 1), type := 24, pos := "value.go:198", after := #[], guard := none }) (v := ?_) rfl (by kernel_rfl) (by kernel_rfl) (by kernel_rfl) (fun _ _ _ h => h) (Or.inl ⟨by rfl, ?_⟩) ⟨fg0, fg1⟩ ?_
            rotate_left 1
            · intro w hSw
              obtain ⟨hSw0, hSw1⟩ := hSw
              go_simp
              first
                | done
                | with_reducible rfl
                | rw [if_neg (by omega)]
            try simp only [Act.put, List.setIfInBounds_toArray, List.set_cons_zero, List.set_cons_succ]
            refine wpAnyH_take (i := 6) (oi := { dst := some 58, op := Op.move (Operand.tmp 8), type := 3, pos := "value.go:198", after := #[], guard := none }) (v := ?_) rfl (by kernel_rfl) (by kernel_rfl) (by kernel_rfl) (fun _ _ _ h => h) (Or.inl ⟨by rfl, ?_⟩) ⟨fg0, fg1⟩ ?_
            rotate_left 1
            · intro w hSw
              obtain ⟨hSw0, hSw1⟩ := hSw
              go_simp
              first
                | done
                | with_reducible rfl
                | rw [if_neg (by omega)]
            try simp only [Act.put, List.setIfInBounds_toArray, List.set_cons_zero, List.set_cons_succ]
            refine wpAnyH_take (i := 7) (oi := { dst := some 59, op := Op.indexAddr 24 (Operand.tmp 57) (Operand.tmp 58), type := 0, pos := "value.go:198", after := #[{ on := 5, ground := Ground.data }, { on := 6, ground := Ground.data }], guard := none }) (v := ?_) rfl (by kernel_rfl) (by kernel_rfl) (by kernel_rfl) (fun _ _ _ h => h) (Or.inl ⟨by rfl, ?_⟩) ⟨fg0, fg1⟩ ?_
            rotate_left 1
            · intro w hSw
              obtain ⟨hSw0, hSw1⟩ := hSw
              go_simp
              first
                | done
                | with_reducible rfl
                | rw [if_neg (by omega)]
            try simp only [Act.put, List.setIfInBounds_toArray, List.set_cons_zero, List.set_cons_succ]
            refine wpAnyH_take (i := 8) (oi := { dst := some 60, op := Op.load 23 (Operand.tmp 59), type := 23, pos := "value.go:198", after := #[{ on := 7, ground := Ground.data }], guard := none }) (v := ?_) rfl (by kernel_rfl) (by kernel_rfl) (by kernel_rfl) (fun _ _ _ h => h) (Or.inl ⟨by rfl, ?_⟩) ⟨fg0, fg1⟩ ?_
            rotate_left 1
            · intro w hSw
              obtain ⟨hSw0, hSw1⟩ := hSw
              go_simp
              first
                | done
                | with_reducible rfl
                | rw [if_neg (by omega)]
            try simp only [Act.put, List.setIfInBounds_toArray, List.set_cons_zero, List.set_cons_succ]
            refine wpAnyH_ready (rs := [9]) (by kernel_rfl) (by simp) ?_
            refine AllReadyH.cons (o := { dst := some 61, op := Op.buildSlice 24 2 #[(0, Operand.tmp 56), (1, Operand.tmp 60)], type := 24, pos := "value.go:198", after := #[{ on := 4, ground := Ground.data }, { on := 8, ground := Ground.data }], guard := none }) rfl (fun K hK => ?_) AllReadyH.nil
            go_simp
            try dsimp only
            have HB9 := hide ((unhide HBd).alloc (unhide HBd).size (.cells #[.string k, .string v] 23))
            have HO9 := hide ((unhide HOd).alloc (.cells #[.string k, .string v] 23))
            have HN9 := hide (new_in we 23 #[.string k, .string v])
            generalize hw9 : we.alloc (.cells #[.string k, .string v] 23) = w9 at *
            generalize hnb : we.heap.size = nb at *
            clear hw9 hnb HBd HOd
            have e0 := ((unhide HB9).cell (p := ⟨b3, o3 + j, none⟩) HLT3.out).trans HC3.out
            have e1 := ((unhide HB9).cell (p := ⟨b2, o2 + i, none⟩) HLT2.out).trans HC2.out
            refine hK.out _ _ ⟨e0, e1⟩ (fun _ => ?_)
            clear hK K
            try simp only [Act.put, List.setIfInBounds_toArray, List.set_cons_zero, List.set_cons_succ]
            refine wpAnyH_ready (rs := [10]) (by kernel_rfl) (by simp) ?_
            refine AllReadyH.cons (o := { dst := some 62, op := Op.call { callee := Callee.builtin Builtin.append, args := #[Operand.tmp 52, Operand.tmp 61], argTypes := #[24, 24] }, type := 24, pos := "value.go:198", after := #[{ on := 0, ground := Ground.data }, { on := 9, ground := Ground.data }], guard := none }) rfl (fun K hK => ?_) AllReadyH.nil
            refine step_app rfl _ _ 24 rfl w5.heap.size 23 i0 _ 1 16 Tryz.underlying24 hi0 hiz0 hiz1 hiz2 rfl (by decide) (.slice A7 q2 c7) q2 (ys.map Value.string) rfl (unhide HO9) (some ⟨nb, 0, none⟩) 2 2 [.string k, .string v] rfl rfl (unhide HN9) (two_str k v) (by unfold maxLen; omega) (by omega) (unhide HB9).size ?_
            intro v10 w10 hown10 hgrow10 _
            have HB10 := hide (below_app (unhide HB9) (unhide HO9) hgrow10)
            have f0 := ((unhide HB10).cell (p := ⟨b3, o3 + j, none⟩) HLT3.out).trans HC3.out
            have f1 := ((unhide HB10).cell (p := ⟨b2, o2 + i, none⟩) HLT2.out).trans HC2.out
            have HO10 := hide hown10
            clear hown10 hgrow10 HB9 HO9 HN9 e0 e1
            refine hK.out _ _ ⟨f0, f1⟩ (fun _ => ?_)
            clear hK K
            try simp only [Act.put, List.setIfInBounds_toArray, List.set_cons_zero, List.set_cons_succ]
            refine wpAnyH_take (i := 11) (oi := { dst := some 6, op := Op.assign (Operand.tmp 62), type := 24, pos := "value.go:198", after := #[{ on := 10, ground := Ground.data }, { on := 10, ground := Ground.chain }, { on := 0, ground := Ground.phase }, { on := 1, ground := Ground.phase }, { on := 2, ground := Ground.phase }, { on := 3, ground := Ground.phase }, { on := 4, ground := Ground.phase }, { on := 5, ground := Ground.phase }, { on := 6, ground := Ground.phase }, { on := 7, ground := Ground.phase }, { on := 8, ground := Ground.phase }, { on := 9, ground := Ground.phase }, { on := 10, ground := Ground.phase }], guard := none }) (v := ?_) rfl (by kernel_rfl) (by kernel_rfl) (by kernel_rfl) (fun _ _ _ h => h) (Or.inl ⟨by rfl, ?_⟩) ⟨f0, f1⟩ ?_
            rotate_left 1
            · intro w hSw
              obtain ⟨hSw0, hSw1⟩ := hSw
              go_simp
              first
                | done
                | with_reducible rfl
                | rw [if_neg (by omega)]
            try simp only [Act.put, List.setIfInBounds_toArray, List.set_cons_zero, List.set_cons_succ]
            refine wpAnyH_done (by kernel_rfl) ?_ _
            refine NoPanic.normal ?_
            have HYS : Hid (ys ++ [k, v] = xs ++ inn k (zs.take (i + 1))) := Lib.hid (by rw [inn_step HPI.out, if_pos rfl, ← List.append_assoc, ← hys.out])
            have HYB : Hid (q2 + 2 ≤ 2199023255552) := Lib.hid (by
              have h1 := congrArg List.length HYS.out
              have h2 := inn_len k (zs.take (i + 1))
              have h3 := HXB.out
              have h4 := hql2.out
              rw [List.length_append, List.length_append] at h1
              rw [List.length_take] at h2
              simp at h1
              omega)
            go_wp2_with fail
            go_roundw
            case rel => exact ⟨i + 1, q2 + 2, ys ++ [k, v], by go_num, by omega, by have := HYB.out; omega, by rw [List.length_append, ← hql2.out]; rfl, HYS.out, by rw [List.map_append]; exact unhide HO10, unhide HB10⟩
            case measure => simp [intOf]; omega
          · have hee : (k.toList == x.toList) = false := ne_list hkx
            have HYS : Hid (ys = xs ++ inn x (zs.take (i + 1))) := Lib.hid (by rw [inn_step HPI.out, if_neg hkx, List.append_nil]; exact hys.out)
            clear hkx
            go_wp2_with fail
            have fd0 : Hid (wr.drew.cell? ⟨b1, o1 + i, none⟩ = some (.string k)) := k1
            have fd1 : Hid (wr.drew.cell? ⟨b3, o3 + j, none⟩ = some (.string x)) := k3
            have HO8 := hide ((unhide hO2).drew)
            have HB8 := hide (below_drew (unhide hB2))
            have k2d : wr.drew.cell? ⟨b2, o2 + i, none⟩ = some (.string v) := k2
            clear hO2 hB2 k2
            refine wp_region_noPanic ?_
            refine wp_region_held_drew (S := fun W => W.cell? ⟨b1, o1 + i, none⟩ = some (.string k) ∧ W.cell? ⟨b3, o3 + j, none⟩ = some (.string x)) (by kernel_rfl) ⟨fd0, fd1⟩ (fun _ => ?_)
            generalize wr.drew = wd at *
            try simp only [Act.put, List.setIfInBounds_toArray, List.set_cons_zero, List.set_cons_succ]
            refine wpAnyH_take (i := 0) (oi := { dst := some 43, op := Op.move (Operand.tmp 0), type := 24, pos := "value.go:197", after := #[], guard := none }) (v := ?_) rfl (by kernel_rfl) (by kernel_rfl) (by kernel_rfl) (fun _ _ _ h => h) (Or.inl ⟨by rfl, ?_⟩) ⟨fd0, fd1⟩ ?_
            rotate_left 1
            · intro w hSw
              obtain ⟨hSw0, hSw1⟩ := hSw
              go_simp
              first
                | done
                | with_reducible rfl
                | rw [if_neg (by omega)]
            try simp only [Act.put, List.setIfInBounds_toArray, List.set_cons_zero, List.set_cons_succ]
            refine wpAnyH_take (i := 1) (oi := { dst := some 44, op := Op.move (Operand.tmp 8), type := 3, pos := "value.go:197", after := #[], guard := none }) (v := ?_) rfl (by kernel_rfl) (by kernel_rfl) (by kernel_rfl) (fun _ _ _ h => h) (Or.inl ⟨by rfl, ?_⟩) ⟨fd0, fd1⟩ ?_
            rotate_left 1
            · intro w hSw
              obtain ⟨hSw0, hSw1⟩ := hSw
              go_simp
              first
                | done
                | with_reducible rfl
                | rw [if_neg (by omega)]
            try simp only [Act.put, List.setIfInBounds_toArray, List.set_cons_zero, List.set_cons_succ]
            refine wpAnyH_take (i := 2) (oi := { dst := some 45, op := Op.indexAddr 24 (Operand.tmp 43) (Operand.tmp 44), type := 0, pos := "value.go:197", after := #[{ on := 0, ground := Ground.data }, { on := 1, ground := Ground.data }], guard := none }) (v := ?_) rfl (by kernel_rfl) (by kernel_rfl) (by kernel_rfl) (fun _ _ _ h => h) (Or.inl ⟨by rfl, ?_⟩) ⟨fd0, fd1⟩ ?_
            rotate_left 1
            · intro w hSw
              obtain ⟨hSw0, hSw1⟩ := hSw
              go_simp
              first
                | done
                | with_reducible rfl
                | rw [if_neg (by omega)]
            try simp only [Act.put, List.setIfInBounds_toArray, List.set_cons_zero, List.set_cons_succ]
            refine wpAnyH_take (i := 3) (oi := { dst := some 46, op := Op.load 23 (Operand.tmp 45), type := 23, pos := "value.go:197", after := #[{ on := 2, ground := Ground.data }], guard := none }) (v := ?_) rfl (by kernel_rfl) (by kernel_rfl) (by kernel_rfl) (fun _ _ _ h => h) (Or.inl ⟨by rfl, ?_⟩) ⟨fd0, fd1⟩ ?_
            rotate_left 1
            · intro w hSw
              obtain ⟨hSw0, hSw1⟩ := hSw
              go_simp
              first
                | done
                | with_reducible rfl
                | rw [if_neg (by omega)]
            try simp only [Act.put, List.setIfInBounds_toArray, List.set_cons_zero, List.set_cons_succ]
            refine wpAnyH_take (i := 4) (oi := { dst := some 47, op := Op.move (Operand.tmp 5), type := 24, pos := "value.go:197", after := #[], guard := none }) (v := ?_) rfl (by kernel_rfl) (by kernel_rfl) (by kernel_rfl) (fun _ _ _ h => h) (Or.inl ⟨by rfl, ?_⟩) ⟨fd0, fd1⟩ ?_
            rotate_left 1
            · intro w hSw
              obtain ⟨hSw0, hSw1⟩ := hSw
              go_simp
              first
                | done
                | with_reducible rfl
                | rw [if_neg (by omega)]
            try simp only [Act.put, List.setIfInBounds_toArray, List.set_cons_zero, List.set_cons_succ]
            refine wpAnyH_take (i := 5) (oi := { dst := some 48, op := Op.move (Operand.tmp 7), type := 3, pos := "value.go:197", after := #[], guard := none }) (v := ?_) rfl (by kernel_rfl) (by kernel_rfl) (by kernel_rfl) (fun _ _ _ h => h) (Or.inl ⟨by rfl, ?_⟩) ⟨fd0, fd1⟩ ?_
            rotate_left 1
            · intro w hSw
              obtain ⟨hSw0, hSw1⟩ := hSw
              go_simp
              first
                | done
                | with_reducible rfl
                | rw [if_neg (by omega)]
            try simp only [Act.put, List.setIfInBounds_toArray, List.set_cons_zero, List.set_cons_succ]
            refine wpAnyH_take (i := 6) (oi := { dst := some 49, op := Op.indexAddr 24 (Operand.tmp 47) (Operand.tmp 48), type := 0, pos := "value.go:197", after := #[{ on := 4, ground := Ground.data }, { on := 5, ground := Ground.data }], guard := none }) (v := ?_) rfl (by kernel_rfl) (by kernel_rfl) (by kernel_rfl) (fun _ _ _ h => h) (Or.inl ⟨by rfl, ?_⟩) ⟨fd0, fd1⟩ ?_
            rotate_left 1
            · intro w hSw
              obtain ⟨hSw0, hSw1⟩ := hSw
              go_simp
              first
                | done
                | with_reducible rfl
                | rw [if_neg (by omega)]
            try simp only [Act.put, List.setIfInBounds_toArray, List.set_cons_zero, List.set_cons_succ]
            refine wpAnyH_take (i := 7) (oi := { dst := some 50, op := Op.load 23 (Operand.tmp 49), type := 23, pos := "value.go:197", after := #[{ on := 6, ground := Ground.data }], guard := none }) (v := ?_) rfl (by kernel_rfl) (by kernel_rfl) (by kernel_rfl) (fun _ _ _ h => h) (Or.inl ⟨by rfl, ?_⟩) ⟨fd0, fd1⟩ ?_
            rotate_left 1
            · intro w hSw
              obtain ⟨hSw0, hSw1⟩ := hSw
              go_simp
              first
                | done
                | with_reducible rfl
                | rw [if_neg (by omega)]
            try simp only [Act.put, List.setIfInBounds_toArray, List.set_cons_zero, List.set_cons_succ]
            refine wpAnyH_take (i := 8) (oi := { dst := some 51, op := Op.binOp BinOp.eql 23 (Operand.tmp 46) (Operand.tmp 50) 23, type := 4, pos := "value.go:197", after := #[{ on := 3, ground := Ground.data }, { on := 7, ground := Ground.data }], guard := none }) (v := ?_) rfl (by kernel_rfl) (by kernel_rfl) (by kernel_rfl) (fun _ _ _ h => h) (Or.inl ⟨by rfl, ?_⟩) ⟨fd0, fd1⟩ ?_
            rotate_left 1
            · intro w hSw
              obtain ⟨hSw0, hSw1⟩ := hSw
              go_simp
              first
                | done
                | with_reducible rfl
                | rw [if_neg (by omega)]
            try simp only [Act.put, List.setIfInBounds_toArray, List.set_cons_zero, List.set_cons_succ]
            refine wpAnyH_done (by kernel_rfl) ?_ _
            refine NoPanic.normal ?_
            clear fd0 fd1 k1 k3 k2d
            go_wp2_with fail
            go_roundw
            case rel => exact ⟨i + 1, q2, ys, by go_num, by omega, by omega, hql2.out, HYS.out, unhide HO8, unhide HB8⟩
            case measure => simp [intOf]; omega
        · have HYE : Hid (ys = mpL (so.take (j + 1)) zs) := Lib.hid (by rw [hys.out, mpL_step HX.out, ← hxs.out, List.take_of_length_le (by have := HZL.out; omega)])
          go_wp2_with fail
          go_roundw
          case rel => exact ⟨j + 1, q2, ys, by go_num, by omega, hq2, hql2.out, HYE.out, hO2.out, hB2.out⟩
          case measure => simp [intOf]; omega
    · have HXE : Hid (xs = mpL so zs) := Lib.hid (by rw [hxs.out, List.take_of_length_le (by have := HL.out; omega)])
      have HCP := Lib.hid (fun w hr => rcompound_any 6 (by decide) xs A6 q c6 w hql.out (by omega) (fun s h => by
        rw [HXE.out] at h
        rcases mpL_mem h with h | ⟨p, hp, rfl⟩
        · exact List.all_eq_true.1 HZ1.out s ((HSM.out s).1 h)
        · exact List.all_eq_true.1 HZ2.out _ (HZV.out p hp)) hr)
      have HI6 := hide (InC.own hO.out)
      go_wp2_with fail
      refine (HCP.out _ (unhide HI6)).mono ?_
      rintro e w8 ⟨rfl, hb8⟩
      have HB8 := hide ((unhide HB5).trans ((hB.out.trans (hb8.mono hB.out.size)).mono (unhide HB5).size))
      clear hb8
      go_wp2_with fail
      go_ret
      exact ⟨by rw [HM.out, ← HXE.out]; rfl, unhide HB8⟩

end Go.Proofs.YtdifpemohdnolaaGreat
namespace Go.Proofs.YtdifpemohdnolaaGreat
open VM

/-- a value that is nested at most d deep and is short -/
def ValOK (d : Nat) (s : ByteArray) : Prop := valB d s = true ∧ s.size + 1 ≤ 10 * 4 ^ (d - 1)
theorem pow_up {d : Nat} (hd : 1 ≤ d) : 10 * 4 ^ (d + 1 - 1) = 4 * (10 * 4 ^ (d - 1)) := by
  obtain ⟨e, rfl⟩ : ∃ e, d = e + 1 := ⟨d - 1, by omega⟩
  simp only [Nat.add_sub_cancel, Nat.pow_succ]
  omega
theorem pow_ge (d : Nat) : 10 ≤ 10 * 4 ^ (d - 1) := by
  have : 1 ≤ 4 ^ (d - 1) := Nat.one_le_pow _ _ (by decide)
  omega
theorem pow_le (d : Nat) (h : d ≤ 7) : 10 * 4 ^ (d - 1) ≤ 40960 := by
  have : 4 ^ (d - 1) ≤ 4 ^ 6 := Nat.pow_le_pow_right (by decide) (by omega)
  have e : (4 : Nat) ^ 6 = 4096 := by decide
  omega
theorem pow_le6 (d : Nat) (h : d ≤ 6) : 10 * 4 ^ (d - 1) ≤ 10240 := by
  have : 4 ^ (d - 1) ≤ 4 ^ 5 := Nat.pow_le_pow_right (by decide) (by omega)
  have e : (4 : Nat) ^ 5 = 1024 := by decide
  omega
theorem ValOK.size {d : Nat} (hd : d ≤ 7) {s : ByteArray} (h : ValOK d s) : s.size ≤ 40960 := by
  have := h.2
  have := pow_le d hd
  omega
theorem ValOK.up {d e : Nat} (h : d ≤ e) {s : ByteArray} (hs : ValOK d s) : ValOK e s := by
  refine ⟨valB_le h hs.1, Nat.le_trans hs.2 (Nat.mul_le_mul_left _ (Nat.pow_le_pow_right (by decide) (by omega)))⟩
theorem val_int {d : Nat} (hd : 1 ≤ d) (z : Int) : ValOK d (intB z) := by
  obtain ⟨e, rfl⟩ : ∃ e, d = e + 1 := ⟨d - 1, by omega⟩
  refine ⟨valB_iff.2 ⟨by rw [intB_size]; omega, .int (eightL z), rfl, ?_⟩, by rw [intB_size]; exact pow_ge _⟩
  unfold wf
  rw [eightL_len]; rfl
theorem val_name {d : Nat} (hd : 1 ≤ d) (n : Nat) : ValOK d (nameB n) := by
  obtain ⟨e, rfl⟩ : ∃ e, d = e + 1 := ⟨d - 1, by omega⟩
  refine ⟨valB_iff.2 ⟨by rw [nameB_size]; omega, .name (UInt8.ofNat (n / 256)) (UInt8.ofNat n), rfl, rfl⟩, ?_⟩
  have := pow_ge (e + 1)
  rw [nameB_size]; omega
def boolB (b : Bool) : ByteArray := ⟨#[2, if b = true then 1 else 0]⟩
theorem val_bool {d : Nat} (hd : 1 ≤ d) (b : Bool) : ValOK d (boolB b) := by
  obtain ⟨e, rfl⟩ : ∃ e, d = e + 1 := ⟨d - 1, by omega⟩
  have h2 : (boolB b).size = 2 := rfl
  refine ⟨valB_iff.2 ⟨by rw [h2]; omega, .bool (if b = true then 1 else 0), rfl, ?_⟩, ?_⟩
  · unfold wf; cases b <;> rfl
  · have := pow_ge (e + 1)
    rw [h2]; omega
theorem tree_int {z : Int} : treeB (intB z) = .int (eightL z) := by
  have h := (valB_iff.1 (val_int (d := 1) (Nat.le_refl _) z).1).2
  refine tree_of (d := 1) (by omega) (v := .int (eightL z)) rfl ?_
  unfold wf
  rw [eightL_len]; rfl
theorem tree_name {n : Nat} : treeB (nameB n) = .name (UInt8.ofNat (n / 256)) (UInt8.ofNat n) := tree_of (d := 1) (by omega) rfl rfl
theorem totB_cons (a : ByteArray) (l : List ByteArray) : totB (a :: l) = a.size + totB l := by unfold totB; simp
theorem totB_bound {N : Nat} : ∀ {l : List ByteArray}, (∀ s ∈ l, s.size ≤ N) → totB l ≤ l.length * N
  | [], _ => by simp [totB]
  | a :: l, h => by
    have h1 := h a (by simp)
    have h2 := totB_bound (l := l) fun s hs => h s (List.mem_cons_of_mem _ hs)
    rw [totB_cons, List.length_cons, Nat.add_mul]; omega
theorem totB_ok {d : Nat} {l : List ByteArray} (h : ∀ s ∈ l, ValOK d s) : totB l + l.length ≤ l.length * (10 * 4 ^ (d - 1)) := by
  induction l with
  | nil => simp [totB]
  | cons a l ih =>
    have h1 := (h a (by simp)).2
    have h2 := ih fun s hs => h s (List.mem_cons_of_mem _ hs)
    rw [totB_cons, List.length_cons, Nat.add_mul]; omega
/-- a compound value of short values -/
theorem comp_ok {d : Nat} (hd : 1 ≤ d) (hd6 : d ≤ 6) {k : UInt8} (hk : isComp k = true) {ps : List ByteArray} (h : ∀ s ∈ ps, valB d s = true) (hp : parted (ord d) k (ps.map treeB) = true) (hz : 4 + totB ps ≤ 4 * (10 * 4 ^ (d - 1))) : ValOK (d + 1) (mkM k ps) := by
  have hb := pow_le6 d hd6
  have hm := mkM_good (by omega) h hk hp (by omega)
  rw [hm.1]
  refine ⟨hm.2, ?_⟩
  rw [encB_size, pow_up hd]; omega
theorem headL_ne {k : UInt8} (h7 : k ≠ 7) (h8 : k ≠ 8) (h9 : k ≠ 9) : ∀ l : List V, headL k l = true
  | [] => rfl
  | a :: _ => headOK_ne h7 h8 h9 a
theorem ok_tuple {d : Nat} (hd : 1 ≤ d) (hd6 : d ≤ 6) {s t : ByteArray} (hs : ValOK d s) (ht : ValOK d t) : ValOK (d + 1) (mkM 3 [s, t]) := by
  have ha : ∀ x ∈ [s, t], ValOK d x := by intro x hx; simp at hx; rcases hx with rfl | rfl; exact hs; exact ht
  refine comp_ok hd hd6 (by decide) (fun x hx => (ha x hx).1) ?_ ?_
  · unfold parted countOK ascOK
    rw [headL_ne (by decide) (by decide) (by decide)]; simp
  · have := totB_ok ha
    have := pow_ge d
    simp at *; omega
theorem ok_seq {d : Nat} (hd : 1 ≤ d) (hd6 : d ≤ 6) {l : List ByteArray} (ha : ∀ s ∈ l, ValOK d s) (hl : l.length ≤ 3) : ValOK (d + 1) (mkM 4 l) := by
  refine comp_ok hd hd6 (by decide) (fun x hx => (ha x hx).1) ?_ ?_
  · unfold parted countOK ascOK
    rw [headL_ne (by decide) (by decide) (by decide)]; simp
  · have h1 := totB_ok ha
    have h2 := pow_ge d
    have h3 : l.length * (10 * 4 ^ (d - 1)) ≤ 3 * (10 * 4 ^ (d - 1)) := Nat.mul_le_mul_right _ hl
    omega
theorem ok_set {d : Nat} (hd : 1 ≤ d) (hd6 : d ≤ 6) {l : List ByteArray} (ha : ∀ s ∈ l, ValOK d s) (hl : l.length ≤ 3) : ValOK (d + 1) (mkM 5 (sortM l)) := by
  have hb : ∀ s ∈ sortM l, ValOK d s := fun s hs => ha s (sortM_mem.1 hs)
  refine comp_ok hd hd6 (by decide) (fun x hx => (hb x hx).1) ?_ ?_
  · unfold parted countOK ascOK
    rw [headL_ne (by decide) (by decide) (by decide)]
    simp [asc_tree (d := d) (by omega) (fun x hx => (hb x hx).1) (sortM_asc l)]
  · have h1 := totB_ok hb
    have h2 := pow_ge d
    have h4 := sortM_len l
    have h3 : (sortM l).length * (10 * 4 ^ (d - 1)) ≤ 3 * (10 * 4 ^ (d - 1)) := Nat.mul_le_mul_right _ (by omega)
    omega
theorem nameI_nat {n : Nat} (h : n ≤ 65535) : nameI (n : Int) = nameB n := by
  unfold nameI
  rw [if_pos (by omega)]; rfl
theorem ok_dot {d : Nat} (hd : 1 ≤ d) (hd6 : d ≤ 6) {l : List ByteArray} (ha : ∀ s ∈ l, ValOK d s) (hl : l.length ≤ 2) {r : Nat} (hr : r ≤ 65535) : ValOK (d + 1) (mkM 7 (nameI (r : Int) :: l)) := by
  rw [nameI_nat hr]
  refine comp_ok hd hd6 (by decide) ?_ ?_ ?_
  · intro x hx
    rcases List.mem_cons.1 hx with rfl | hx
    · exact (val_name hd r).1
    · exact (ha x hx).1
  · rw [List.map_cons, tree_name]
    unfold parted countOK ascOK headL headOK
    simp; omega
  · have h1 := totB_ok ha
    have h2 := pow_ge d
    have h3 : l.length * (10 * 4 ^ (d - 1)) ≤ 2 * (10 * 4 ^ (d - 1)) := Nat.mul_le_mul_right _ hl
    rw [totB_cons, nameB_size]; omega
theorem ok_fun {d : Nat} (hd : 1 ≤ d) (hd6 : d ≤ 6) {l : List ByteArray} (ha : ∀ s ∈ l, ValOK d s) (hl : l.length ≤ 1) {r : Nat} (hr : r ≤ 65535) : ValOK (d + 1) (mkM 8 (intB (r : Int) :: l)) := by
  refine comp_ok hd hd6 (by decide) ?_ ?_ ?_
  · intro x hx
    rcases List.mem_cons.1 hx with rfl | hx
    · exact (val_int hd r).1
    · exact (ha x hx).1
  · rw [List.map_cons, tree_int]
    have hnum := numL_eight (r : Int) (by omega) (by omega)
    unfold parted countOK ascOK headL headOK
    simp [hnum]; omega
  · have h1 := totB_ok ha
    have h2 := pow_ge d
    have h3 : l.length * (10 * 4 ^ (d - 1)) ≤ 1 * (10 * 4 ^ (d - 1)) := Nat.mul_le_mul_right _ hl
    rw [totB_cons, intB_size]; omega
/-- keys and values in turn -/
def inter : List ByteArray → List ByteArray → List ByteArray
  | k :: ks, v :: vs => k :: v :: inter ks vs
  | _, _ => []
theorem inn_none {x : ByteArray} {zs : List (ByteArray × ByteArray)} (h : ∀ p ∈ zs, p.1 ≠ x) : inn x zs = [] := by
  unfold inn
  rw [List.filter_eq_nil_iff.2 fun p hp => by simpa using h p hp]; rfl
theorem inn_cons {x k v : ByteArray} {zs : List (ByteArray × ByteArray)} : inn x ((k, v) :: zs) = (if k = x then [x, v] else []) ++ inn x zs := by
  unfold inn
  by_cases e : k = x
  · subst e; simp
  · simp [e]
theorem mpL_cons {s : List ByteArray} {k v : ByteArray} {zs : List (ByteArray × ByteArray)} (h : k ∉ s) : mpL s ((k, v) :: zs) = mpL s zs := by
  unfold mpL
  induction s with
  | nil => rfl
  | cons a l ih =>
    rw [List.flatMap_cons, List.flatMap_cons, ih (fun q => h (List.mem_cons_of_mem _ q)), inn_cons, if_neg (fun q => h (by rw [q]; simp))]
    rfl
theorem mpL_inter : ∀ {ks vs : List ByteArray}, ks.Nodup → ks.length = vs.length → mpL ks (ks.zip vs) = inter ks vs
  | [], [], _, _ => rfl
  | [], _ :: _, _, h => by simp at h
  | _ :: _, [], _, h => by simp at h
  | k :: ks, v :: vs, h, hl => by
    obtain ⟨h1, h2⟩ := List.nodup_cons.1 h
    have ih := mpL_inter (vs := vs) h2 (by simpa using hl)
    rw [List.zip_cons_cons]
    show mpL (k :: ks) _ = k :: v :: inter ks vs
    have e : mpL (k :: ks) ((k, v) :: ks.zip vs) = inn k ((k, v) :: ks.zip vs) ++ mpL ks ((k, v) :: ks.zip vs) := by unfold mpL; rw [List.flatMap_cons]
    rw [e, mpL_cons h1, ih, inn_cons, if_pos rfl, inn_none fun p hp q => h1 (by rw [← q]; exact (List.of_mem_zip (a := p.1) (b := p.2) hp).1)]
    rfl
theorem asc_nodup {l : List ByteArray} (h : Asc l) : l.Nodup := List.Pairwise.imp (fun {a b} q e => by subst e; rw [cmpM_self] at q; omega) h
theorem inter_len : ∀ {ks vs : List ByteArray}, ks.length = vs.length → (inter ks vs).length = 2 * ks.length
  | [], [], _ => rfl
  | [], _ :: _, h => by simp at h
  | _ :: _, [], h => by simp at h
  | k :: ks, v :: vs, h => by
    have := inter_len (ks := ks) (vs := vs) (by simpa using h)
    show (k :: v :: inter ks vs).length = _
    rw [List.length_cons, List.length_cons, this, List.length_cons]; omega
theorem inter_mem : ∀ {ks vs : List ByteArray} {u : ByteArray}, u ∈ inter ks vs → u ∈ ks ∨ u ∈ vs
  | k :: ks, v :: vs, u, h => by
    have h' : u ∈ k :: v :: inter ks vs := h
    rcases List.mem_cons.1 h' with rfl | h'
    · exact .inl (by simp)
    rcases List.mem_cons.1 h' with rfl | h'
    · exact .inr (by simp)
    rcases inter_mem h' with h' | h'
    · exact .inl (List.mem_cons_of_mem _ h')
    · exact .inr (List.mem_cons_of_mem _ h')
  | [], [], u, h => by cases h
  | [], _ :: _, u, h => by cases h
  | _ :: _, [], u, h => by cases h
theorem evens_inter : ∀ {ks vs : List ByteArray}, ks.length = vs.length → evens ((inter ks vs).map treeB) = ks.map treeB
  | [], [], _ => rfl
  | [], _ :: _, h => by simp at h
  | _ :: _, [], h => by simp at h
  | k :: ks, v :: vs, h => by
    show treeB k :: evens ((inter ks vs).map treeB) = _
    rw [evens_inter (by simpa using h)]; rfl
theorem mapM_asc {ks vs : List ByteArray} (h : Asc ks) (hl : ks.length = vs.length) (hk : ∀ s ∈ ks, valB 32 s = true) (hv : ∀ s ∈ vs, valB 32 s = true) : mapM ks vs = mkM 6 (inter ks vs) := by
  unfold mapM
  rw [if_pos ⟨hl, List.all_eq_true.2 hk, List.all_eq_true.2 hv, by rw [sortM_self h]⟩, sortM_self h, mpL_inter (asc_nodup h) hl]
theorem ok_map {d : Nat} (hd : 1 ≤ d) (hd6 : d ≤ 6) {ks vs : List ByteArray} (h : Asc ks) (hl : ks.length = vs.length) (hk : ∀ s ∈ ks, ValOK d s) (hv : ∀ s ∈ vs, ValOK d s) (h2 : ks.length ≤ 2) : ValOK (d + 1) (mapM ks vs) := by
  rw [mapM_asc h hl (fun s hs => valB_le (by omega) (hk s hs).1) (fun s hs => valB_le (by omega) (hv s hs).1)]
  have ha : ∀ s ∈ inter ks vs, ValOK d s := fun s hs => (inter_mem hs).elim (hk s) (hv s)
  have h4 := inter_len hl
  refine comp_ok hd hd6 (by decide) (fun x hx => (ha x hx).1) ?_ ?_
  · unfold parted ascOK
    rw [headL_ne (by decide) (by decide) (by decide), evens_inter hl]
    unfold countOK
    rw [List.length_map, h4]
    simp [asc_tree (d := d) (by omega) (fun x hx => (hk x hx).1) h]
  · have h1 := totB_ok ha
    have h3 := pow_ge d
    rw [h4] at h1
    have h5 : 2 * ks.length * (10 * 4 ^ (d - 1)) ≤ 4 * (10 * 4 ^ (d - 1)) := Nat.mul_le_mul_right _ (by omega)
    have h6 : ks.length = 0 ∨ ks.length = 1 ∨ ks.length = 2 := by omega
    rcases h6 with h6 | h6 | h6 <;> rw [h6] at h1 h5 <;> omega

end Go.Proofs.YtdifpemohdnolaaGreat
