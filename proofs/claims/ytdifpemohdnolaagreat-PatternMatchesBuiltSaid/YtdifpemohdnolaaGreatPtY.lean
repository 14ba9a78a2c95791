/- A PatCat of variables: what Build says of it; the law's example. Pure. Conditions: at most 8191 children. -/
import Derived.Test.YtdifpemohdnolaaGreatPtV
namespace Go.Proofs.YtdifpemohdnolaaGreat
open Go.RowKit VM

def nodeL (op num : Int) (ps : List (List Cd)) : List Cd := (op, num, (ps.length : Int)) :: ps.flatten
theorem code_info : (Tryz.prog.info? 27).map (fun i => (i.zero, i.size, i.bytes)) = some (some (.agg #[.int .i64 0, .int .i64 0, .int .i64 0]), 3, 24) := by kernel_rfl
theorem cd_one : ∀ (p : List Cd), ∀ u ∈ p.flatMap cdCells, u.oneCell' = true := by
  intro p u hu
  obtain ⟨t, _, ht⟩ := List.mem_flatMap.1 hu
  unfold cdCells at ht
  simp at ht
  rcases ht with rfl | rfl | rfl <;> rfl
theorem cd_flen (p : List Cd) : (p.flatMap cdCells).length = p.length * 3 := by
  induction p with
  | nil => rfl
  | cons a l ih => rw [List.flatMap_cons, List.length_append, ih, cd_len, List.length_cons]; omega
/-- a slice of nodes as its own -/
abbrev Row := Option Addr × Nat × Nat
def rowV (r : Row) : Value := .slice r.1 r.2.1 r.2.2
structure Rows (w : World) (rs : List Row) (ps : List (List Cd)) : Prop where
  len : rs.length = ps.length
  at_ : ∀ (i : Nat) (r : Row) (p : List Cd), rs[i]? = some r → ps[i]? = some p → r.2.1 = p.length ∧ r.2.1 ≤ 8192 ∧ InC w r.1 (p.flatMap cdCells)
theorem Rows.below {w w' : World} {rs : List Row} {ps : List (List Cd)} (h : Rows w rs ps) (hb : Below w.heap.size w w') : Rows w' rs ps :=
  ⟨h.len, fun i r p h1 h2 => ⟨(h.at_ i r p h1 h2).1, (h.at_ i r p h1 h2).2.1, (h.at_ i r p h1 h2).2.2.below hb⟩⟩
def NodePost (w : World) (q : List Cd) (e : Ending) (w' : World) : Prop :=
  ∃ (A : Option Addr) (m d : Nat), e = .returned (.slice A m d) ∧ m = q.length ∧ w'.ownsRow w.heap.size 27 3 (.slice A m d) m (q.flatMap cdCells) ∧ Below w.heap.size w w'
set_option linter.unusedSimpArgs false in
set_option maxRecDepth 100000 in
set_option maxHeartbeats 6400000 in
theorem node_any (op num : Int) (ps : List (List Cd)) (rs : List Row) (L : Option Addr) (n c : Nat) (w : World) (hn : n = ps.length) (hn2 : n ≤ 64) (hR : Rows w rs ps) (hL : InC w L (rs.map rowV)) :
    Calls Tryz.prog 20 #[.int .i64 op, .int .i64 num, .slice L n c] w (NodePost w (nodeL op num ps)) := by
  obtain ⟨i0, hi0, hiz0, hiz1, hiz2⟩ := info_parts code_info
  have HN := Lib.hid hn
  have HR := hide hR
  have HL := hide hL
  have e0 : (w.alloc (.cells #[.int .i64 op, .int .i64 num, .int .i64 (n : Int)] 27)).ownsRow w.heap.size 27 3 (.slice (some ⟨w.heap.size, 0, none⟩) 1 1) 1 (([(op, num, (n : Int))] : List Cd).flatMap cdCells) :=
    ⟨rfl, .inr ⟨w.heap.size, 1, #[.int .i64 op, .int .i64 num, .int .i64 (n : Int)], rfl, Nat.le_refl _, heap_alloc_new w _, Nat.le_refl _, by unfold maxLen; omega, rfl, rfl⟩⟩
  have HO0 := hide e0
  have HB0 := hide ((Below.refl w.heap.size w).alloc (Nat.le_refl _) (.cells #[.int .i64 op, .int .i64 num, .int .i64 (n : Int)] 27))
  clear hn hR hL e0
  go_enter Tryz.func20, Tryz.ntmps20
  go_wp2_with fail
  go_loopw [7, 8] (fun sv iv wr => ∃ (i m : Nat), iv = .int .i64 i ∧ i ≤ n ∧ Hid (m = 1 + (ps.take i).flatten.length) ∧ Hid (m ≤ 1 + i * 8192) ∧ Hid (wr.ownsRow w.heap.size 27 3 sv m ((((op, num, (n : Int)) : Cd) :: (ps.take i).flatten).flatMap cdCells)) ∧ Hid (Below w.heap.size w wr)) (fun _ iv _ => n - (intOf iv).toNat)
  case atStart => exact ⟨0, 1, rfl, by omega, Lib.hid (by simp), Lib.hid (by omega), unhide HO0, unhide HB0⟩
  case round =>
    obtain ⟨i, m, rfl, hi, hm, hm2, hO, hB⟩ := hrel
    clear HO0 HB0
    obtain ⟨A4, c4, rfl⟩ := owns_form hO.out
    by_cases hlt : i < n
    · have hR2 := (unhide HR).below hB.out
      obtain ⟨q, hq⟩ : ∃ q, ps[i]? = some q := ⟨_, List.getElem?_eq_getElem (by have := HN.out; omega)⟩
      obtain ⟨r, hr⟩ : ∃ r, rs[i]? = some r := ⟨_, List.getElem?_eq_getElem (by have := HN.out; have := hR2.len; omega)⟩
      obtain ⟨X, k, d⟩ := r
      obtain ⟨a1, a2, a3⟩ := hR2.at_ i _ q hr hq
      dsimp only at a1 a2 a3
      obtain ⟨b, off, hLe, hb, x0⟩ := at1s ((unhide HL).below hB.out) (i := i) (u := .slice X k d) (by rw [List.getElem?_map, hr]; rfl)
      subst hLe
      have HX := hide a3
      have HXL : Hid ((q.flatMap cdCells).length = k * 3) := Lib.hid (by rw [cd_flen, ← a1])
      have HTK : Hid ((ps.take (i + 1)).flatten = (ps.take i).flatten ++ q) := Lib.hid (by rw [List.take_add_one, hq, List.flatten_append]; simp)
      have HK := Lib.hid a1
      have hsz := hB.out.size
      have hm3 := hm2.out
      have hm4 : m ≤ 1 + 64 * 8192 := by omega
      clear hq hr hR2 a1 a3 hm3
      go_wp2_with (at_builtin; refine wpList_app _ rfl _ _ 22 rfl w.heap.size 27 i0 _ 3 24 Tryz.underlying22 hi0 hiz0 hiz1 hiz2 rfl (by decide) _ m _ rfl hO.out X k d (q.flatMap cdCells) rfl HXL.out (unhide HX) (cd_one q) (by unfold maxLen; omega) (by omega) hsz ?_; intro v5 w5 hown5 hgrow5 _)
      have HB5 := hide (below_app hB.out hO.out hgrow5)
      have HO5 : Hid (w5.ownsRow w.heap.size 27 3 v5 (m + k) ((((op, num, (n : Int)) : Cd) :: (ps.take (i + 1)).flatten).flatMap cdCells)) := hide (by rw [HTK.out, ← List.cons_append, List.flatMap_append]; exact hown5)
      have HM5 : Hid (m + k = 1 + (ps.take (i + 1)).flatten.length) := Lib.hid (by rw [HTK.out, List.length_append, hm.out, HK.out]; omega)
      have HM6 : Hid (m + k ≤ 1 + (i + 1) * 8192) := Lib.hid (by have := hm2.out; omega)
      clear hown5 hgrow5
      go_wp2_with fail
      go_roundw
      case rel => exact ⟨i + 1, m + k, by go_num, by omega, HM5.out, HM6.out, unhide HO5, unhide HB5⟩
      case measure => simp [intOf]; omega
    · have hin : i = n := by omega
      have HF : Hid ((ps.take i).flatten = ps.flatten) := Lib.hid (by rw [hin, HN.out, List.take_length])
      subst hin
      have HE : Hid (m = (nodeL op num ps).length ∧ wr.ownsRow w.heap.size 27 3 (.slice A4 m c4) m ((nodeL op num ps).flatMap cdCells)) := Lib.hid ⟨by rw [hm.out, HF.out]; unfold nodeL; rw [List.length_cons]; omega, by
        have h := hO.out
        rw [HF.out, HN.out] at h
        exact h⟩
      clear hm hO HF
      go_wp2_with fail
      go_ret
      exact ⟨A4, m, c4, rfl, HE.out.1, HE.out.2, hB.out⟩

end Go.Proofs.YtdifpemohdnolaaGreat
namespace Go.Proofs.YtdifpemohdnolaaGreat
open Go.RowKit VM

def pv : Cd := (30, 0, 0)
def catP (a K : Nat) : List Cd := (36, (a : Int), (K : Int)) :: List.replicate K pv
theorem catP_node (a K : Nat) : nodeL 36 (a : Int) (List.replicate K [pv]) = catP a K := by
  unfold nodeL catP
  rw [List.length_replicate]
  congr 1
  induction K with
  | zero => rfl
  | succ K ih => rw [List.replicate_succ, List.flatten_cons, ih, List.replicate_succ]; rfl
theorem catP_len (a K : Nat) : (catP a K).length = K + 1 := by unfold catP; rw [List.length_cons, List.length_replicate]
theorem catP_get {a K i : Nat} (h : i < K) : (catP a K)[i + 1]? = some pv := by
  unfold catP
  rw [List.getElem?_cons_succ, List.getElem?_replicate, if_pos h]
theorem pend_pv {d : Nat} {p : List Cd} {i : Nat} (h : p[i]? = some pv) : pendL (d + 1) p i = some (i + 1) := by
  unfold pendL
  rw [h]
  rfl
theorem loop_pv {d : Nat} {p : List Cd} {c : Cd} : ∀ (r k i : Nat), (∀ x, i ≤ x → x < i + r → p[x]? = some pv) → loopL (pendL (d + 1) p) (badL p c) r k i = some (i + r)
  | 0, _, _, _ => rfl
  | r + 1, k, i, h => by
    unfold loopL
    have h0 := h i (Nat.le_refl _) (by omega)
    rw [pend_pv h0]
    have hb : badL p c k i = false := by
      unfold badL
      rw [h0, show ((some pv : Option Cd).map allL).getD true = true from rfl]
      simp
    simp only [hb]
    rw [if_neg (by decide), loop_pv r (k + 1) (i + 1) fun x h1 h2 => h x (by omega) (by omega)]
    congr 1; omega
theorem mtch_pv {d : Nat} {p : List Cd} {i : Nat} (v : ByteArray) (h : p[i]? = some pv) : mtch (d + 1) p i v = some (i + 1, [v]) := by
  unfold mtch
  rw [h]
  rfl
theorem mLoop_pv {d : Nat} {p : List Cd} : ∀ (l : List ByteArray) (i : Nat) (acc : List ByteArray), (∀ x, i ≤ x → x < i + l.length → p[x]? = some pv) → mLoop (mtch (d + 1) p) l i acc = some (i + l.length, acc ++ l)
  | [], i, acc, _ => by simp [mLoop]
  | u :: l, i, acc, h => by
    unfold mLoop
    rw [mtch_pv u (h i (Nat.le_refl _) (by simp))]
    simp only
    rw [mLoop_pv l (i + 1) (acc ++ [u]) fun x h1 h2 => h x (by omega) (by simp at h2 ⊢; omega), List.append_assoc]
    simp
    omega
theorem permL_cat {a K : Nat} (h : a < K) : permL (36, (a : Int), (K : Int)) = true := by
  show decide (0 ≤ (a : Int) ∧ (a : Int) < (K : Int)) = true
  exact decide_eq_true ⟨by omega, by omega⟩
theorem catP_isPat {a K : Nat} (h : a < K) (hK : K ≤ 8191) : isPat (catP a K) = true := by
  have hp : pendL 64 (catP a K) 0 = some (catP a K).length := by
    unfold pendL
    rw [show (catP a K)[0]? = some (36, (a : Int), (K : Int)) from rfl]
    simp only
    rw [permL_cat h, if_pos rfl, Int.toNat_natCast, loop_pv K 0 (0 + 1) fun x h1 h2 => ?_, catP_len]
    · congr 1; omega
    · obtain ⟨y, rfl⟩ : ∃ y, x = y + 1 := ⟨x - 1, by omega⟩
      exact catP_get (by omega)
  unfold isPat
  rw [hp, decide_eq_true (by rw [catP_len]; omega), decide_eq_true rfl]
  rfl
theorem catP_match {a K : Nat} (h : a < K) (hK : K ≤ 8191) {v : ByteArray} (hv : valB 32 v = true) : matchR (catP a K) v = aroundR a (K - 1) v := by
  unfold matchR
  rw [if_pos ⟨catP_isPat h hK, hv⟩]
  unfold mtch
  rw [show (catP a K)[0]? = some (36, (a : Int), (K : Int)) from rfl]
  simp only
  have hs : splitR (36, (a : Int), (K : Int)) v = aroundR a (K - 1) v := by
    show aroundR (a : Int).toNat ((K : Int) - 1).toNat v = _
    rw [Int.toNat_natCast, show ((K : Int) - 1).toNat = K - 1 by omega]
  have hl := fun l => splitR_len (l := l) (v := v) (permL_cat h)
  rw [hs] at hl ⊢
  cases hr : aroundR a (K - 1) v with
  | none => rfl
  | some l =>
    have hlen : l.length = K := by have : (l.length : Int) = (K : Int) := hl l hr; omega
    simp only
    rw [if_neg (by decide), mLoop_pv l (0 + 1) [] fun x h1 h2 => ?_]
    · rfl
    · obtain ⟨y, rfl⟩ : ∃ y, x = y + 1 := ⟨x - 1, by omega⟩
      exact catP_get (by omega)
theorem catP_vars (a K : Nat) : varsN (catP a K) = K := by
  unfold varsN catP
  rw [List.filter_cons_of_neg (by simp), List.filter_eq_self.2 (fun x hx => by rw [(List.mem_replicate.1 hx).2]; rfl), List.length_replicate]
theorem catP_irr (a K : Nat) : irrB (catP a K) = false := by
  unfold irrB catP
  rw [List.any_cons, show failL (36, (a : Int), (K : Int)) = true from rfl]
  simp

end Go.Proofs.YtdifpemohdnolaaGreat
namespace Go.Proofs.YtdifpemohdnolaaGreat
open Go.RowKit VM

theorem seqI {ps : List ByteArray} (h : ∀ s ∈ ps, valB 31 s = true) (hz : 3 + totB ps ≤ 131072) : mkM 4 ps ≠ ⟨#[]⟩ := by
  rw [← seq_same, mkP_good (Nat.le_refl _) h hz]
  intro e
  have := congrArg ByteArray.size e
  rw [encB_size] at this
  have e2 : (⟨#[]⟩ : ByteArray).size = 0 := rfl
  omega
theorem seq_facts {ps : List ByteArray} (h : ∀ s ∈ ps, valB 31 s = true) (hz : 3 + totB ps ≤ 131072) : valB 32 (mkM 4 ps) = true ∧ kindM (mkM 4 ps) = 4 ∧ pt (mkM 4 ps) = ps := by
  obtain ⟨h1, h2, _⟩ := made (k := 4) (by decide) (seqI h hz)
  refine ⟨(isK_valid h1).1, ?_, h2⟩
  have := kind_isK (s := mkM 4 ps) (k := 4) (by decide)
  rw [h1] at this
  simpa using this
theorem around_seq {ps : List ByteArray} (h : ∀ s ∈ ps, valB 31 s = true) (hz : 3 + totB ps ≤ 131072) (a n : Nat) :
    aroundR a n (mkM 4 ps) = if n ≤ ps.length then some (ps.take a ++ [mkM 4 ((ps.take (ps.length - (n - a))).drop a)] ++ ps.drop (ps.length - (n - a))) else none := by
  obtain ⟨_, h2, h3⟩ := seq_facts h hz
  unfold aroundR
  rw [h2, h3, seq_same]
  simp
theorem bld_pv {d : Nat} {p : List Cd} {i : Nat} (v : ByteArray) (r : List ByteArray) (h : p[i]? = some pv) : bld (d + 1) p i (v :: r) = some (v, i + 1, r) := by
  unfold bld
  rw [h]
  rfl
theorem bLoop_pv {d : Nat} {p : List Cd} (r : List ByteArray) : ∀ (l : List ByteArray) (i : Nat) (acc : List ByteArray), (∀ x, i ≤ x → x < i + l.length → p[x]? = some pv) → bLoop (bld (d + 1) p) l.length i (l ++ r) acc = some (acc ++ l, i + l.length, r)
  | [], i, acc, _ => by simp [bLoop]
  | u :: l, i, acc, h => by
    rw [List.length_cons]
    unfold bLoop
    rw [List.cons_append, bld_pv u (l ++ r) (h i (Nat.le_refl _) (by simp))]
    simp only
    rw [bLoop_pv r l (i + 1) (acc ++ [u]) fun x h1 h2 => h x (by omega) (by simp at h2 ⊢; omega), List.append_assoc]
    simp
    omega
theorem catP_build {a K : Nat} (h : a < K) (hK : K ≤ 8191) {l : List ByteArray} (hl : l.length = K) (ht : totB l ≤ 131072) : buildP (catP a K) l = if valB 32 (insertR l a) = true then some (insertR l a) else none := by
  have hb : bld 64 (catP a K) 0 l = some (insertR l a, 1 + K, []) := by
    unfold bld
    rw [show (catP a K)[0]? = some (36, (a : Int), (K : Int)) from rfl]
    simp only
    rw [if_neg (by decide), Int.toNat_natCast]
    have q := bLoop_pv (d := 62) (p := catP a K) [] l (0 + 1) [] (fun x h1 h2 => by
      obtain ⟨y, rfl⟩ : ∃ y, x = y + 1 := ⟨x - 1, by omega⟩
      exact catP_get (by omega))
    rw [List.append_nil, hl] at q
    rw [q]
    rfl
  unfold buildP
  rw [if_pos ⟨catP_isPat h hK, by rw [hl, catP_vars], ht⟩, hb]
/-- the law's example -/
def exP : List Cd := catP 1 2
def exS : ByteArray := mkM 4 [intB 1, intB 2]
def exL : List ByteArray := [intB 1, mkM 4 [intB 2]]
theorem int_val31 (z : Int) : valB 31 (intB z) = true := (val_int (by decide) z).1
theorem ex_val : ∀ s ∈ [intB 1, intB 2], valB 31 s = true := by
  intro s hs
  simp at hs
  rcases hs with rfl | rfl <;> exact int_val31 _
theorem ex_tot : 3 + totB [intB 1, intB 2] ≤ 131072 := by
  unfold totB
  simp [intB_size]
theorem ex_match : matchR exP exS = some exL := by
  unfold exP exS exL
  rw [catP_match (by decide) (by decide) (seq_facts ex_val ex_tot).1, around_seq ex_val ex_tot]
  rfl
theorem ex_two : (∀ s ∈ [intB 2], valB 31 s = true) ∧ 3 + totB [intB 2] ≤ 131072 := by
  refine ⟨fun s hs => ?_, by unfold totB; simp [intB_size]⟩
  simp at hs
  subst hs
  exact int_val31 _
theorem ex_build : buildP exP exL = some exS := by
  have h2 := seq_facts ex_two.1 ex_two.2
  have hi : insertR exL 1 = exS := by
    unfold insertR
    rw [show exL.getD 1 ⟨#[]⟩ = mkM 4 [intB 2] from rfl, if_pos h2.2.1, h2.2.2, seq_same]
    rfl
  have ht : totB exL ≤ 131072 := by
    have e : mkM 4 [intB 2] = encB 4 [intB 2] := by rw [← seq_same]; exact mkP_good (Nat.le_refl _) ex_two.1 ex_two.2
    unfold totB exL
    rw [e]
    simp [intB_size, encB_size, totB]
  unfold exP
  rw [catP_build (a := 1) (K := 2) (by decide) (by decide) rfl ht, hi]
  exact if_pos (seq_facts ex_val ex_tot).1

end Go.Proofs.YtdifpemohdnolaaGreat
