/- finset's subsets: the sets of some of the elements, one after another, for every loop body that keeps what lay below; Subsets. Conditions: at most 12 elements. -/
import Derived.Test.YtkdlmgahkckjbaaGreatFnJ
import Derived.Lib.RabinKarpLaws
namespace Go.Proofs.YtkdlmgahkckjbaaGreat
open Go.RowKit Go.Shelf VM

attribute [local go_sem] Oper.semAt_some

set_option maxRecDepth 100000 in
set_option maxHeartbeats 1600000 in
theorem len64_13 (w : World) : Calls Tryz.prog 68 #[.int .u64 4096] w fun e w' => e = .returned (.int .i64 13) ∧ w' = w := by
  go_enter Tryz.func68, Tryz.ntmps68
  go_wp2
  go_ret
  exact ⟨ret_int (by kernel_rfl), rfl⟩
set_option maxRecDepth 100000 in
theorem len13 (w : World) : Calls Tryz.prog 49 #[.int .u64 4096] w fun e w' => e = .returned (.int .i64 13) ∧ Below w.heap.size w w' := by
  go_enter Tryz.func49, Tryz.ntmps49
  go_wp2_with fail
  refine (len64_13 _).mono ?_
  rintro e w1 ⟨rfl, rfl⟩
  go_wp2_with fail
  go_ret
  exact ⟨rfl, Below.refl _ _⟩
/-- the elements that a mask chooses -/
def subM : List ByteArray → Nat → List ByteArray
  | [], _ => []
  | p :: r, m => (if m % 2 = 1 then [p] else []) ++ subM r (m / 2)
theorem subM_snoc : ∀ (l : List ByteArray) (p : ByteArray) (m : Nat), subM (l ++ [p]) m = subM l m ++ (if m / 2 ^ l.length % 2 = 1 then [p] else [])
  | [], p, m => by
    show (if m % 2 = 1 then [p] else []) ++ subM [] (m / 2) = _
    simp [subM]
  | q :: r, p, m => by
    show (if m % 2 = 1 then [q] else []) ++ subM (r ++ [p]) (m / 2) = (if m % 2 = 1 then [q] else []) ++ subM r (m / 2) ++ _
    rw [subM_snoc r p (m / 2), List.append_assoc, List.length_cons, Nat.pow_succ', Nat.div_div_eq_div_mul]
theorem subM_sub : ∀ (l : List ByteArray) (m : Nat), (subM l m).Sublist l
  | [], _ => List.Sublist.refl _
  | p :: r, m => by
    show ((if m % 2 = 1 then [p] else []) ++ subM r (m / 2)).Sublist (p :: r)
    split
    · exact (subM_sub r (m / 2)).cons_cons p
    · exact (subM_sub r (m / 2)).cons p
theorem subM_inj : ∀ {l : List ByteArray} {m k : Nat}, l.Nodup → m < 2 ^ l.length → k < 2 ^ l.length → subM l m = subM l k → m = k
  | [], m, k, _, h1, h2, _ => by simp at h1 h2; omega
  | p :: r, m, k, hn, h1, h2, h => by
    obtain ⟨hp, hr⟩ := List.nodup_cons.1 hn
    rw [List.length_cons, Nat.pow_succ] at h1 h2
    have hnm : ∀ j, p ∉ subM r j := fun j q => hp ((subM_sub r j).subset q)
    have e1 : subM (p :: r) m = (if m % 2 = 1 then [p] else []) ++ subM r (m / 2) := rfl
    have e2 : subM (p :: r) k = (if k % 2 = 1 then [p] else []) ++ subM r (k / 2) := rfl
    rw [e1, e2] at h
    have hmk : (m % 2 = 1 ↔ k % 2 = 1) ∧ subM r (m / 2) = subM r (k / 2) := by
      by_cases a : m % 2 = 1 <;> by_cases b : k % 2 = 1
      · rw [if_pos a, if_pos b] at h; exact ⟨⟨fun _ => b, fun _ => a⟩, (List.cons.inj h).2⟩
      · rw [if_pos a, if_neg b] at h
        exact absurd (by rw [List.nil_append] at h; rw [← h]; simp) (hnm (k / 2))
      · rw [if_neg a, if_pos b] at h
        exact absurd (by rw [List.nil_append] at h; rw [h]; simp) (hnm (m / 2))
      · rw [if_neg a, if_neg b] at h; exact ⟨⟨fun q => absurd q a, fun q => absurd q b⟩, h⟩
    have := subM_inj hr (by omega) (by omega) hmk.2
    omega
theorem and_one' (i : Nat) (hi : i < 9223372036854775808) : bits BinOp.and IntKind.i64 (i : Int) 1 = ((i % 2 : Nat) : Int) := and_one i hi
theorem setM_size (l : List ByteArray) : (setM l).size ≤ 131072 := by
  by_cases h : setM l = ⟨#[]⟩
  · rw [h]; exact Nat.zero_le _
  · exact (tree_val (Nat.le_refl _) (isK_valid (made_set h).1).1).2.2
/-- the sets that subsets hands out -/
def subS (l : List ByteArray) (k : Nat) : List BV := (List.range k).map fun m => ⟨setM (subM l m), setM_size _⟩
theorem subS_succ (l : List ByteArray) (k : Nat) : subS l (k + 1) = subS l k ++ [⟨setM (subM l k), setM_size _⟩] := by unfold subS; rw [List.range_succ, List.map_append]; rfl
theorem subS_len (l : List ByteArray) (k : Nat) : (subS l k).length = k := by unfold subS; simp
theorem subS_take (l : List ByteArray) {j k : Nat} (h : j ≤ k) : subS l j <+: subS l k := by
  refine ⟨((List.range k).drop j).map fun m => ⟨setM (subM l m), setM_size _⟩, ?_⟩
  unfold subS
  rw [← List.map_append]
  congr 1
  have : List.range j = (List.range k).take j := by rw [List.take_range, Nat.min_eq_left h]
  rw [this, List.take_append_drop]
set_option maxRecDepth 100000 in
set_option maxHeartbeats 4000000 in
theorem subs1_in (n : Nat) (hn : 1 ≤ n) (A : Option Addr) (l Bs n₀ len cap : Nat) (ps : List ByteArray) (hps : len = ps.length) (hlen : len ≤ 12) (hBn : Bs < n₀) (J Jx : List BV → World → Prop) (B0 : Nat) (hJ : AbidesFrom B0 J)
    (hY : ∀ pre x W, J pre W → pre.length < 2 ^ len → YieldAt Fence.wide (n - 1) Tryz.prog l #[.string x.1] W fun e W' =>
      (e = .returned (.bool true) ∧ J (pre ++ [x]) W' ∧ Below n₀ W W') ∨ (e = .returned (.bool false) ∧ Jx (pre ++ [x]) W'))
    (W : World) (hn₀ : n₀ ≤ W.heap.size) (hBs : W.cell? ⟨Bs, 0, none⟩ = some (.slice A len cap)) (hsz : ∀ s ∈ ps, s.size ≤ 281474976710656) (hc : ∀ j u, ps[j]? = some u → ∃ b off, A = some ⟨b, off, none⟩ ∧ b < n₀ ∧ W.cell? ⟨b, off + j, none⟩ = some (.string u)) (h0 : J [] W) :
    CallsIn Fence.wide n Tryz.prog 69 #[.func (.yield l) #[] #[], .pointer (some ⟨Bs, 0, none⟩)] W fun e W' => (∃ v, e = .returned v) ∧
      (J (subS ps (2 ^ len)) W' ∨ (∃ k, k ≤ 2 ^ len ∧ Jx (subS ps k) W')) := by
  have hro : Fence.wide.round = none := rfl
  have HPS := Lib.hid hps
  obtain ⟨N, hN⟩ : ∃ N, N = 2 ^ len := ⟨_, rfl⟩
  have hN12 : N ≤ 4096 := by rw [hN]; exact Nat.le_trans (Nat.pow_le_pow_right (by omega) hlen) (by decide)
  have hwN : wrap64 ((2 : Int) ^ len) = (N : Int) := by
    have e : ((2 : Int) ^ len) = ((2 ^ len : Nat) : Int) := by simp
    rw [e, ← hN]; exact IntWalk.wrap64_in _ (by omega)
  have HN := Lib.hid hN
  rw [← hN] at hY ⊢
  obtain ⟨i0, hi0, hiz0, hiz1, hiz2⟩ := info_parts val_info
  have HC := Lib.hid hc
  have HSZ := Lib.hid hsz
  have HY := Lib.hid hY
  have HAB := Lib.hid hJ
  clear hps hN hc hY hJ hsz
  refine callsIn_of_wp Tryz.func69 rfl trivial ?_ hro
  simp only [Tryz.ntmps69, List.size_toArray, List.length_cons, List.length_nil, Nat.reduceAdd, Nat.reduceSub, Array.replicate_succ, Array.replicate_zero, List.push_toArray, List.append_toArray, List.nil_append, List.cons_append]
  gi_wp2
  rw [hwN]
  clear hwN
  gi_loopw [10] (fun iv wr => ∃ m : Nat, iv = .int .i64 m ∧ m ≤ N ∧ J (subS ps m) wr ∧ Below n₀ W wr) (fun iv _ => N - (intOf iv).toNat)
  case atStart => exact ⟨0, rfl, Nat.zero_le _, h0, Below.refl _ _⟩
  case round =>
    obtain ⟨m, rfl, hm, hJm, hBm⟩ := hrel
    have hBs1 : wr.cell? ⟨Bs, 0, none⟩ = some (.slice A len cap) := (hBm.cell (p := ⟨Bs, 0, none⟩) hBn).trans hBs
    by_cases hmN : m < N
    · have HJM := hide hJm
      have HBM := hide hBm
      obtain ⟨w1, hw1⟩ : ∃ w1, wr = w1 := ⟨_, rfl⟩
      rw [hw1] at HJM HBM hBs1 ⊢
      have hn1 : n₀ ≤ w1.heap.size := by have := (unhide HBM).size; omega
      clear hJm hBm hw1
      clear wr
      gi_wp2
      gi_loopw [4, 15] (fun kv iv wr => ∃ (i q : Nat), iv = .int .i64 i ∧ i ≤ len ∧ q ≤ i ∧ Hid (q = (subM (ps.take i) m).length) ∧ Hid (wr.ownsRow w1.heap.size 27 1 kv q ((subM (ps.take i) m).map Value.string)) ∧ Hid (Below w1.heap.size w1 wr)) (fun _ iv _ => len - (intOf iv).toNat)
      case atStart => exact ⟨0, 0, rfl, Nat.zero_le _, Nat.le_refl _, rfl, World.ownsRow_nil _ _ _ _, Below.refl _ _⟩
      case round =>
        obtain ⟨i, q, rfl, hi, hqi, hql, hO, hB⟩ := hrel
        obtain ⟨A4, c4, rfl⟩ := owns_form hO.out
        by_cases hil : i < len
        · obtain ⟨u, hu⟩ : ∃ u, ps[i]? = some u := ⟨ps[i]'(by have := HPS.out; omega), List.getElem?_eq_getElem _⟩
          obtain ⟨b, off, hA, hb, hcw⟩ := HC.out i u hu
          subst hA
          have hcu : wr.cell? ⟨b, off + i, none⟩ = some (.string u) := (hB.out.cell (p := ⟨b, off + i, none⟩) (by show b < w1.heap.size; omega)).trans (((unhide HBM).cell (p := ⟨b, off + i, none⟩) hb).trans hcw)
          clear hcw
          have hq2 : ((m : Int) / 2 ^ i) = ((m / 2 ^ i : Nat) : Int) := by simp
          have hb2 : bits BinOp.and IntKind.i64 ((m : Int) / 2 ^ i) 1 = ((m / 2 ^ i % 2 : Nat) : Int) := by
            rw [hq2]; exact and_one' _ (Nat.lt_of_le_of_lt (Nat.div_le_self _ _) (by omega))
          have hlt : (ps.take i).length = i := by rw [List.length_take]; have := HPS.out; omega
          have HSN : Hid (subM (ps.take (i + 1)) m = subM (ps.take i) m ++ (if m / 2 ^ i % 2 = 1 then [u] else [])) := Lib.hid (by
            rw [List.take_add_one, hu]
            show subM (ps.take i ++ [u]) m = _
            rw [subM_snoc, hlt])
          clear hq2 hlt hu
          by_cases hbit : m / 2 ^ i % 2 = 1
          · rw [hbit] at hb2
            change bits BinOp.and IntKind.i64 ((m : Int) / 2 ^ i) 1 = 1 at hb2
            rw [if_pos hbit] at HSN
            have hsz := hB.out.size
            gi_wp2_with (gi_at_builtin; refine wpListIn_append_own _ rfl _ _ 22 rfl w1.heap.size 27 i0 (.string ⟨#[]⟩) 1 16 Tryz.underlying22 hi0 hiz0 hiz1 hiz2 rfl (by decide) _ _ _ rfl (hO.out.alloc _) ⟨wr.heap.size, 0, none⟩ 1 1 [.string u] rfl rfl (cell_one_new _ _ _) (by simp [Value.oneCell']) (by unfold maxLen; omega) (by omega) (by simp; omega) ?_; intro v6 w6 hown6 hgrow6 _)
            have HB6 := hide (below_app (hB.out.alloc hsz (.cells #[.string u] 27)) (hO.out.alloc _) hgrow6)
            have HO6 : Hid (w6.ownsRow w1.heap.size 27 1 v6 (q + 1) ((subM (ps.take (i + 1)) m).map Value.string)) := hide (by rw [HSN.out, List.map_append]; exact hown6)
            have HQ6 : Hid (q + 1 = (subM (ps.take (i + 1)) m).length) := Lib.hid (by rw [HSN.out, List.length_append, ← hql.out]; rfl)
            clear hown6 hgrow6
            gi_wp2
            go_roundw
            case rel => exact ⟨i + 1, q + 1, by go_num, by omega, by omega, HQ6.out, unhide HO6, unhide HB6⟩
            case measure => simp [intOf]; omega
          · have hb0 : m / 2 ^ i % 2 = 0 := by omega
            rw [hb0] at hb2
            change bits BinOp.and IntKind.i64 ((m : Int) / 2 ^ i) 1 = 0 at hb2
            rw [if_neg hbit, List.append_nil] at HSN
            gi_wp2
            go_roundw
            case rel => exact ⟨i + 1, q, by go_num, by omega, by omega, by rw [HSN.out]; exact hql.out, by rw [HSN.out]; exact hO.out, hB.out⟩
            case measure => simp [intOf]; omega
        · have hil2 : i = len := by omega
          have HSU : Hid (subM (ps.take i) m = subM ps m) := Lib.hid (by rw [List.take_of_length_le (by have := HPS.out; omega)])
          have HSS := Lib.hid (subS_succ ps m)
          have HS := pset_any (subM (ps.take i) m) A4 q c4 wr hql.out (by omega) (fun s hs => HSZ.out s (((subM_sub _ _).trans (List.take_sublist _ _)).subset hs)) (InC.own hO.out)
          rw [set_same, HSU.out] at HS
          change Calls _ _ _ _ fun e w' => e = .returned (.string (setM (subM ps m))) ∧ _ at HS
          have HBw := hide hB.out
          clear HSU hO hB hql
          generalize wr = w4 at *
          gi_wp2_with (refine ⟨trivial, ?_⟩; gi_at_call 19; refine (callsIn_wide.2 HS).mono ?_; rintro e W5 ⟨rfl, hb5⟩; have hB5 := (unhide HBw).trans (hb5.mono (unhide HBw).size); have hJ5 := HAB.out _ _ _ none (unhide HJM) (only_below hB5 none) (fun r e => by cases e); obtain ⟨fn, tmps, assign, body, hy, hR⟩ := HY.out _ ⟨setM (subM ps m), setM_size _⟩ W5 hJ5 (by rw [subS_len]; exact hmN))
          refine hR.mono ?_
          rintro e W6 (⟨rfl, hJ6, hk6⟩ | ⟨rfl, hJx6⟩)
          · gi_wp2
            go_roundw
            case rel => exact ⟨m + 1, by go_num, by omega, by rw [HSS.out]; exact hJ6, (unhide HBM).trans ((hB5.mono (by have := (unhide HBM).size; omega)).trans hk6)⟩
            case measure => simp [intOf]; omega
          · gi_wp2
            refine bodyPost_ret (results_none rfl _ _ _) rfl ?_
            exact ⟨⟨_, rfl⟩, .inr ⟨m + 1, by omega, by rw [HSS.out]; exact hJx6⟩⟩
    · obtain rfl : m = N := by omega
      gi_wp2
      go_end0
      exact ⟨⟨_, rfl⟩, .inl hJm⟩
/-- subsets: the slice is boxed, the function captures the box -/
theorem subsets_any (a : Option Addr) (len cap : Nat) (w : World) :
    Calls Tryz.prog 50 #[.slice a len cap] w fun e w' => e = .returned (.func (.func 69) #[] #[.pointer (some ⟨w.heap.size, 0, none⟩)]) ∧ w' = w.alloc (.cells #[.slice a len cap] 22) := by
  refine (callsIn_wide (n := 1)).1 (callsIn_of_wp Tryz.func50 rfl trivial ?_ rfl)
  simp only [Tryz.ntmps50, List.size_toArray, List.length_cons, List.length_nil, Nat.reduceAdd, Nat.reduceSub, Array.replicate_succ, Array.replicate_zero, List.push_toArray, List.append_toArray, List.nil_append, List.cons_append]
  gi_wp2
  go_ret
  exact ⟨rfl, rfl⟩
theorem subs_stops (n : Nat) (hn : 1 ≤ n) (Bs : Nat) (A : Option Addr) (len cap : Nat) (ps : List ByteArray) (hps : len = ps.length) (hlen : len ≤ 12) (hsz : ∀ s ∈ ps, s.size ≤ 281474976710656) (w : World) (hBs : Bs < w.heap.size) (hc : w.cell? ⟨Bs, 0, none⟩ = some (.slice A len cap)) (hI : InC w A (ps.map Value.string)) :
    SeqStopsK Fence.wide n Tryz.prog 69 #[.pointer (some ⟨Bs, 0, none⟩)] (fun x : BV => #[Value.string x.1]) (Below w.heap.size) (fun ys => ys = subS ps (2 ^ len)) (fun pre => pre <+: subS ps (2 ^ len)) (subS ps (2 ^ len)).length w := fun l J Jx W hW hJ _ hY h0 => by
  rw [subS_len] at hY
  refine (subs1_in n hn A l Bs w.heap.size len cap ps hps hlen hBs J Jx W.heap.size hJ hY W hW.size ((hW.cell (p := ⟨Bs, 0, none⟩) hBs).trans hc) hsz (fun j u hu => ?_) h0).mono ?_
  · obtain ⟨b, off, hA, hb, hcc⟩ := at1s hI (i := j) (u := .string u) (by rw [List.getElem?_map, hu]; rfl)
    exact ⟨b, off, hA, hb, (hW.cell (p := ⟨b, off + j, none⟩) hb).trans hcc⟩
  · rintro e W' ⟨he, hj | ⟨k, hk, hj⟩⟩
    · exact ⟨he, .inl ⟨_, rfl, hj⟩⟩
    · exact ⟨he, .inr ⟨_, subS_take ps hk, hj⟩⟩
/-- the subsets of a list -/
def subL (l : List ByteArray) : List ByteArray := (List.range (2 ^ l.length)).map fun m => setM (subM l m)
theorem strs_subS (l : List ByteArray) : strs (subS l (2 ^ l.length)) = subL l := by
  unfold strs subS subL
  rw [List.map_map]; rfl
theorem subM_asc {l : List ByteArray} (h : Asc l) (m : Nat) : Asc (subM l m) := List.Pairwise.sublist (subM_sub l m) h
theorem subL_nodup {l : List ByteArray} (h : Asc l) (hx : ∀ x ∈ subL l, x ≠ ⟨#[]⟩) : (subL l).Nodup := by
  unfold subL
  refine List.Pairwise.map _ (R := fun a b => a < b ∧ b < 2 ^ l.length) ?_ ?_
  · rintro a b ⟨hab, hb⟩ e
    have h1 : setM (subM l a) ≠ ⟨#[]⟩ := hx _ (List.mem_map.2 ⟨a, List.mem_range.2 (by omega), rfl⟩)
    have h2 : setM (subM l b) ≠ ⟨#[]⟩ := hx _ (List.mem_map.2 ⟨b, List.mem_range.2 hb, rfl⟩)
    have e1 := (made_set h1).2.1
    have e2 := (made_set h2).2.1
    rw [sortM_self (subM_asc h a)] at e1
    rw [sortM_self (subM_asc h b)] at e2
    rw [e] at e1
    have := subM_inj (asc_nodup h) (by omega) hb (e1.symm.trans e2)
    omega
  · rw [List.pairwise_iff_getElem]
    intro i j hi hj hij
    rw [List.length_range] at hi hj
    rw [List.getElem_range, List.getElem_range]
    exact ⟨hij, hj⟩
def subsetM (x : ByteArray) : ByteArray × Int := if isK 5 x = true then (if (pt x).length ≥ 13 then (⟨#[]⟩, 9) else bnd (subL (pt x))) else (⟨#[]⟩, 6)
set_option linter.unusedSimpArgs false in
set_option maxRecDepth 100000 in
set_option maxHeartbeats 6400000 in
theorem pSubsets_any (x : ByteArray) (hx : x.size ≤ 281474976710656) (w : World) :
    Calls Tryz.prog 28 #[.string x] w (RetV w (subsetM x)) := by
  have HX := hide (isSet_any x hx w)
  cases h5 : isK 5 x with
  | false =>
    have HR : Hid (subsetM x = (⟨#[]⟩, 6)) := Lib.hid (by unfold subsetM; rw [h5]; rfl)
    rw [h5] at HX
    clear h5
    go_enter Tryz.func28, Tryz.ntmps28
    go_wp2_with fail
    refine (unhide HX).mono ?_
    rintro e w1 ⟨rfl, hb1⟩
    have HB1 := hide hb1
    clear hb1
    go_wp2_with fail
    go_ret2
    exact ⟨by rw [HR.out]; rfl, unhide HB1⟩
  | true =>
    have HPX := Lib.hid (fun w => pparts_any x hx w)
    have HAS := Lib.hid (pt_set h5).1
    have HSZ := Lib.hid (pt_size48 x)
    have HLE := Lib.hid (pt_len x)
    have HR0 : Hid (subsetM x = if (pt x).length ≥ 13 then (⟨#[]⟩, 9) else bnd (subL (pt x))) := Lib.hid (by unfold subsetM; rw [if_pos h5])
    rw [h5] at HX
    generalize subsetM x = r at *
    generalize pt x = ps at *
    clear h5
    go_enter Tryz.func28, Tryz.ntmps28
    go_wp2_with fail
    refine (unhide HX).mono ?_
    rintro e w1 ⟨rfl, hb1⟩
    have HB1 := hide hb1
    clear hb1
    go_wp2_with fail
    refine (HPX.out _).mono ?_
    rintro e w3 ⟨S3, c3, n3, rfl, hn3, hO3, hb3⟩
    have HB3 := hide ((unhide HB1).trans (hb3.mono (unhide HB1).size))
    have HN3 := Lib.hid hn3
    have hn6 : n3 ≤ 65536 := by rw [hn3]; exact HLE.out
    have HI3 := hide (InC.own hO3)
    clear hb3 hn3 hO3
    go_wp2_with fail
    refine (len13 _).mono ?_
    rintro e w4 ⟨rfl, hb4⟩
    have HB4 := hide ((unhide HB3).trans (hb4.mono (unhide HB3).size))
    have HI4 := hide ((unhide HI3).below hb4)
    clear hb4
    by_cases h13 : 13 ≤ n3
    · have HR : Hid (r = (⟨#[]⟩, 9)) := Lib.hid (by rw [HR0.out, if_pos (by rw [← HN3.out]; exact h13)])
      go_wp2_with fail
      go_ret2
      exact ⟨by rw [HR.out]; rfl, unhide HB4⟩
    · have HR : Hid (r = bnd (subL ps)) := Lib.hid (by rw [HR0.out, if_neg (by rw [← HN3.out]; exact h13)])
      go_wp2_with fail
      refine (subsets_any S3 n3 c3 w4).mono ?_
      rintro e w6 ⟨rfl, rfl⟩
      have HCC := hide ((callsIn_wide (n := 3)).1 (collected_in 3 (by omega) 69 #[.pointer (some ⟨w4.heap.size, 0, none⟩)] (enters_of Tryz.func69 (by kernel_rfl) rfl) (subS ps (2 ^ n3)) (by
          rw [HN3.out, strs_subS]
          exact subL_nodup HAS.out) (by rw [subS_len]; exact Nat.le_trans (Nat.pow_le_pow_right (by omega) (show n3 ≤ 12 by omega)) (by decide)) (w4.alloc (.cells #[.slice S3 n3 c3] 22))
        (subs_stops 2 (by omega) w4.heap.size S3 n3 c3 ps HN3.out (by omega) HSZ.out (w4.alloc (.cells #[.slice S3 n3 c3] 22)) (by simp) ((Blk.new w4 22 #[.slice S3 n3 c3]).cell 0) ((unhide HI4).alloc _))))
      have HB6 := hide ((unhide HB4).alloc (unhide HB4).size (.cells #[.slice S3 n3 c3] 22))
      have HSB : Hid (bnd (strs (subS ps (2 ^ n3))) = r) := Lib.hid (by rw [HR.out, HN3.out, strs_subS])
      rw [HSB.out] at HCC
      go_wp2_with fail
      refine (unhide HCC).mono ?_
      rintro e w7 ⟨rfl, hb7⟩
      have HB7 := hide ((unhide HB6).trans (hb7.mono (unhide HB6).size))
      clear hb7
      go_wp2_with fail
      go_ret2
      exact ⟨rfl, unhide HB7⟩

end Go.Proofs.YtkdlmgahkckjbaaGreat
