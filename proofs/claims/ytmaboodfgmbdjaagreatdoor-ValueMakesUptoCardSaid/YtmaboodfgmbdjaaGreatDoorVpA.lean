/- slices.Sort, slices.SortFunc and slices.Compact at values, on rows of a call's own. Conditions: at most 2^61 strings; SortFunc: all are values. -/
import Derived.Test.YtmaboodfgmbdjaaGreatDoorVsM
import Derived.Test.YtmaboodfgmbdjaaGreatDoorVaQ
import Derived.Test.YtmaboodfgmbdjaaGreatDoorShV
import Derived.Shelf.SortG.Plain
import Derived.Shelf.SortG.SortNone
import Derived.Shelf.SlSortCmp.NoneTotal
import Derived.Sort.OwnSorted
import Derived.Laws.OwnMore
namespace Go.Proofs.YtmaboodfgmbdjaaGreatDoor
open Go.RowKit VM

abbrev toB (l : List UInt8) : ByteArray := ⟨l.toArray⟩
theorem toB_bs (s : ByteArray) : toB (bs s) = s := rfl
theorem bs_toB (l : List UInt8) : bs (toB l) = l := rfl
theorem map_toB (ps : List ByteArray) : (ps.map bs).map toB = ps := by
  rw [List.map_map]
  exact (List.map_congr_left fun s _ => toB_bs s).trans (List.map_id _)
theorem str_enc (ps : List ByteArray) : ps.map Value.string = (ps.map bs).map Go.Proofs.encStr := by
  rw [List.map_map]; rfl
theorem enc_str (ls : List (List UInt8)) : ls.map Go.Proofs.encStr = (ls.map toB).map Value.string := by
  rw [List.map_map]; rfl

/-! compact -/
theorem compact_asc {α : Type} [Inhabited α] [DecidableEq α] {R : α → α → Prop} (hT : ∀ a b c, R a b → R b c → R a c) (zs : List α) (h : zs.Pairwise fun a b => a = b ∨ R a b) :
    (Go.Lib.compact zs).Pairwise R ∧ ∀ u, u ∈ Go.Lib.compact zs ↔ u ∈ zs := by
  have key : ∀ m, m ≤ zs.length → (Go.Lib.compactUpTo zs.toArray m).Pairwise R ∧ (∀ u, u ∈ Go.Lib.compactUpTo zs.toArray m ↔ u ∈ zs.take m) ∧ (∀ v, 0 < m → zs[m - 1]? = some v → ∀ u ∈ Go.Lib.compactUpTo zs.toArray m, u = v ∨ R u v) := by
    intro m
    induction m with
    | zero => intro _; exact ⟨List.Pairwise.nil, fun u => by simp [Go.Lib.compactUpTo], fun v h => absurd h (by omega)⟩
    | succ m ih =>
      intro hm
      obtain ⟨i1, i2, i3⟩ := ih (by omega)
      obtain ⟨x, hx⟩ : ∃ x, zs[m]? = some x := ⟨zs[m]'(by omega), List.getElem?_eq_getElem _⟩
      have hxm : m < zs.length := by omega
      have e : zs.toArray[m]! = x := by
        rw [getElem!_pos _ m (by simpa using hxm)]
        rw [List.getElem?_eq_getElem hxm] at hx
        simpa using hx
      have ht : zs.take (m + 1) = zs.take m ++ [x] := by rw [List.take_add_one, hx]; rfl
      have hpre : ∀ u ∈ zs.take m, u = x ∨ R u x := by
        intro u hu
        have hP : (zs.take (m + 1)).Pairwise fun a b => a = b ∨ R a b := h.sublist (List.take_sublist _ _)
        rw [ht] at hP
        exact (List.pairwise_append.1 hP).2.2 u hu x (by simp)
      rw [Go.Lib.compactUpTo_succ, e]
      by_cases hk : Go.Lib.keeps zs.toArray m = true
      · rw [if_pos hk]
        refine ⟨List.pairwise_append.2 ⟨i1, List.pairwise_singleton _ _, ?_⟩, ?_, ?_⟩
        · intro u hu b hb
          rw [List.mem_singleton.1 hb]
          rcases Nat.eq_zero_or_pos m with h0 | h0
          · subst h0; have := (i2 u).1 hu; simp at this
          · obtain ⟨v, hv⟩ : ∃ v, zs[m - 1]? = some v := ⟨zs[m - 1]'(by omega), List.getElem?_eq_getElem _⟩
            have hvm : m - 1 < zs.length := by omega
            have ev : zs.toArray[m - 1]! = v := by
              rw [getElem!_pos _ (m - 1) (by simpa using hvm)]
              rw [List.getElem?_eq_getElem hvm] at hv
              simpa using hv
            have hne : x ≠ v := by
              unfold Go.Lib.keeps at hk
              rw [decide_eq_true_eq, e, ev] at hk
              exact hk.resolve_left (by omega)
            have hvx : R v x := by
              rcases hpre v (List.mem_of_getElem? (i := m - 1) (by rw [List.getElem?_take_of_lt (by omega)]; exact hv)) with q | q
              · exact absurd q.symm hne
              · exact q
            rcases i3 v h0 hv u hu with q | q
            · subst q; exact hvx
            · exact hT _ _ _ q hvx
        · intro u
          rw [ht, List.mem_append, List.mem_append, i2]
        · intro v _ hv u hu
          rw [Nat.add_sub_cancel, hx] at hv
          obtain rfl := Option.some.inj hv
          rcases List.mem_append.1 hu with hu | hu
          · exact hpre u ((i2 u).1 hu)
          · exact .inl (List.mem_singleton.1 hu)
      · rw [if_neg hk, List.append_nil]
        have h0 : 0 < m := by
          rcases Nat.eq_zero_or_pos m with h0 | h0
          · subst h0; exact absurd (Go.Lib.keeps_lt_one zs.toArray 0 (by omega)) hk
          · exact h0
        obtain ⟨v, hv⟩ : ∃ v, zs[m - 1]? = some v := ⟨zs[m - 1]'(by omega), List.getElem?_eq_getElem _⟩
        have hvm : m - 1 < zs.length := by omega
        have ev : zs.toArray[m - 1]! = v := by
          rw [getElem!_pos _ (m - 1) (by simpa using hvm)]
          rw [List.getElem?_eq_getElem hvm] at hv
          simpa using hv
        have hxv : x = v := by
          unfold Go.Lib.keeps at hk
          rw [decide_eq_true_eq, e, ev] at hk
          exact Decidable.byContradiction fun q => hk (.inr q)
        have hmem : x ∈ zs.take m := by rw [hxv]; exact List.mem_of_getElem? (i := m - 1) (by rw [List.getElem?_take_of_lt (by omega)]; exact hv)
        refine ⟨i1, ?_, ?_⟩
        · intro u
          rw [ht, List.mem_append, i2]
          exact ⟨.inl, fun q => q.elim id fun q => by rw [List.mem_singleton.1 q]; exact hmem⟩
        · intro v' _ hv' u hu
          rw [Nat.add_sub_cancel, hx] at hv'
          obtain rfl := Option.some.inj hv'
          exact hpre u ((i2 u).1 hu)
  have hl := key zs.length (Nat.le_refl _)
  refine ⟨hl.1, fun u => ?_⟩
  have := hl.2.1 u
  rwa [List.take_length] at this
/-- of strings in order, compacted -/
def compB2 (zs : List ByteArray) : List ByteArray := (Go.Lib.compact (zs.map bs)).map toB
theorem compact_sort {zs ps : List ByteArray} (h : zs.Pairwise fun a b => cmpM a b ≤ 0) (hm : ∀ u, u ∈ zs ↔ u ∈ ps) : compB2 zs = sortM ps := by
  have hc := compact_asc (R := fun a b : List UInt8 => cmpM (toB a) (toB b) < 0) (fun a b c h1 h2 => cmpM_lt_le h1 (by omega)) (zs.map bs) (by
    rw [List.pairwise_map]
    refine h.imp fun {a b} q => ?_
    show bs a = bs b ∨ cmpM a b < 0
    by_cases e : a = b
    · exact .inl (by rw [e])
    · exact .inr (by have : cmpM a b ≠ 0 := fun z => e ((cmpM_zero a b).1 z); omega))
  refine sortM_eq ?_ fun u => ?_
  · unfold compB2 Asc
    rw [List.pairwise_map]
    exact hc.1
  · unfold compB2
    rw [← hm, List.mem_map]
    constructor
    · rintro ⟨l, hl, rfl⟩
      obtain ⟨s, hs, e⟩ := List.mem_map.1 ((hc.2 l).1 hl)
      rw [← e]; exact hs
    · intro hu
      exact ⟨bs u, (hc.2 _).2 (List.mem_map.2 ⟨u, hu, rfl⟩), rfl⟩

/-! slices.Sort at strings -/
theorem sortS_any (v : Value) (p base : Nat) (xs : List ByteArray) (w : World) (hp : p ≤ 1048576) (hO : w.ownsRow base 27 1 v p (xs.map Value.string)) :
    Calls Tryz.prog 71 #[v] w fun e w' => e = .returned (.tuple #[]) ∧ ∃ ys : List ByteArray, w'.ownsRow base 27 1 v p (ys.map Value.string) ∧ ys.Perm xs ∧ (ys.Pairwise fun a b => bs a ≤ bs b) ∧ w.grownBy w' v.ownBlock := by
  have hlen : xs.length = p := by have := hO.1; simpa using this
  rcases hO.2 with ⟨rfl, rfl⟩ | ⟨g, cap, cur, rfl, hb, hg, h1, h2, h3, h4⟩
  · refine (AnyG.slices_Sort_string_none Tryz.sortVS none 0 w).mono ?_
    rintro e w' ⟨rfl, rfl⟩
    have : xs = [] := List.eq_nil_of_length_eq_zero hlen
    subst this
    exact ⟨rfl, [], hO, List.Perm.refl _, List.Pairwise.nil, World.grownBy.refl _ _⟩
  · have h4' : cur.toList.take (xs.map bs).length = (xs.map bs).map Go.Proofs.encStr := by rw [List.length_map, hlen, ← str_enc]; simpa using h4
    have hH := Go.holds_of_block hg h4'
    have hlt : g < w.heap.size := (Array.getElem?_eq_some_iff.1 hg).1
    have hC := AnyG.slices_Sort_string Tryz.sortVS g 0 cap (xs.map bs) w hH hlt (by rw [List.length_map]; omega)
    rw [List.length_map, hlen] at hC
    refine hC.mono ?_
    rintro e w' ⟨rfl, n, os, rfl⟩
    refine ⟨rfl, ((xs.map bs).mergeSort fun x y => decide (x ≤ y)).map toB, ?_, ?_, ?_, Go.grownBy_sorted _⟩
    · have := Go.ownsRow_sorted (n := n) (os := os) (ss := xs.map bs) (ts := (xs.map bs).mergeSort fun x y => decide (x ≤ y)) (List.length_mergeSort _) hb hg (by rw [List.length_map, hlen]; exact h1) h2 h3
      rw [List.length_map, hlen, enc_str] at this
      exact this
    · have := (List.mergeSort_perm (xs.map bs) fun x y => decide (x ≤ y)).map toB
      rwa [map_toB] at this
    · rw [List.pairwise_map]
      have := List.pairwise_mergeSort (le := fun x y : List UInt8 => decide (x ≤ y)) (fun a b c q1 q2 => decide_eq_true (List.le_trans (of_decide_eq_true q1) (of_decide_eq_true q2))) (fun a b => by
        rcases List.le_total a b with q | q
        · simp [q]
        · simp [q]) (xs.map bs)
      exact this.imp fun {a b} q => by rw [bs_toB, bs_toB]; exact of_decide_eq_true q

/-! slices.SortFunc at values -/
abbrev Val := {s : ByteArray // valB 32 s = true}
theorem some_val : valB 32 ⟨#[2, 0]⟩ = true := valB_iff.2 ⟨by decide, .bool 0, rfl, rfl⟩
instance valInh : Inhabited Val := ⟨⟨⟨#[2, 0]⟩, some_val⟩⟩
def encV (x : Val) : Value := .string x.1
def cfV (x y : Val) : Int := cmpM x.1 y.1
theorem swoV : Go.Sort.SWO (ltOf cfV) where
  irrefl x := by
    show decide (cmpM x.1 x.1 < 0) = false
    rw [cmpM_self]; rfl
  trans x y z h1 h2 := by
    have q1 : cmpM x.1 y.1 < 0 := of_decide_eq_true h1
    have q2 : cmpM y.1 z.1 < 0 := of_decide_eq_true h2
    exact decide_eq_true (cmpM_lt_le q1 (by omega))
  ntrans x y z h1 h2 := by
    have q1 : ¬ cmpM x.1 y.1 < 0 := of_decide_eq_false h1
    have q2 : ¬ cmpM y.1 z.1 < 0 := of_decide_eq_false h2
    refine decide_eq_false fun q => ?_
    have q3 : cmpM x.1 z.1 < 0 := q
    have a1 := cmpM_anti x.1 y.1
    have a2 := cmpM_anti y.1 z.1
    have a3 := cmpM_anti x.1 z.1
    have := cmpM_trans z.1 y.1 x.1 (by omega) (by omega)
    omega
theorem holds_map {α β : Type} [Inhabited α] [Inhabited β] {f : α → β} {ea : α → Value} {eb : β → Value} (hf : ∀ x, ea x = eb (f x)) {w : World} {g o : Nat} {d : Array α} (h : Go.Sort.Holds eb w g o (d.map f)) : Go.Sort.Holds ea w g o d := by
  intro j hj
  have := h j (by simpa using hj)
  rw [getElem!_pos _ j (by simpa using hj)] at this
  rw [getElem!_pos _ j hj, hf]
  simpa using this
theorem putRow_map {α β : Type} [Inhabited α] [Inhabited β] {f : α → β} {ea : α → Value} {eb : β → Value} (hf : ∀ x, ea x = eb (f x)) (w : World) (g o : Nat) (d : Array α) : Go.Sort.putRow ea w g o d = Go.Sort.putRow eb w g o (d.map f) := by
  unfold Go.Sort.putRow
  congr 1
  funext c
  unfold Go.Sort.putCells
  refine congrArg (fun F => c.mapIdx F) ?_
  funext k x
  rw [Array.size_map]
  by_cases hk : o ≤ k ∧ k < o + d.size
  · rw [if_pos hk, if_pos hk, getElem!_pos _ (k - o) (by omega), getElem!_pos _ (k - o) (by rw [Array.size_map]; omega), hf]
    simp
  · rw [if_neg hk, if_neg hk]
theorem cmpV_lays (W : World) (x y : Val) : Calls Tryz.prog 52 #[encV x, encV y] W fun e w' => e = .returned (.int .i64 (cfV x y)) ∧ ∃ q, w' = W.drewN q := by
  obtain ⟨a1, a2, a3⟩ := tree_ok x.2
  obtain ⟨b1, b2, b3⟩ := tree_ok y.2
  have h := cmpVd_any 32 x.1 y.1 (treeB x.1) (treeB y.1) a1 b1 a2 b2 (by omega) (by omega) W
  rw [← cmp_tree (Nat.le_refl _) x.2 y.2] at h
  exact h
theorem attach_vals {xs : List ByteArray} (h : ∀ s ∈ xs, valB 32 s = true) : ∃ d : List Val, d.map Subtype.val = xs := by
  induction xs with
  | nil => exact ⟨[], rfl⟩
  | cons a l ih =>
    obtain ⟨d, hd⟩ := ih fun s hs => h s (List.mem_cons_of_mem _ hs)
    exact ⟨⟨a, h a (by simp)⟩ :: d, by rw [List.map_cons, hd]⟩
theorem sortF_any (v : Value) (p base : Nat) (xs : List ByteArray) (w : World) (hp : p ≤ 1048576) (hv : ∀ s ∈ xs, valB 32 s = true) (hO : w.ownsRow base 27 1 v p (xs.map Value.string)) :
    Calls Tryz.prog 72 #[v, .func (.func 52) #[] #[]] w fun e w' => e = .returned (.tuple #[]) ∧ ∃ ys : List ByteArray, w'.ownsRow base 27 1 v p (ys.map Value.string) ∧ ys.Perm xs ∧ (ys.Pairwise fun a b => cmpM a b ≤ 0) ∧ w.grownBy w' v.ownBlock := by
  have hlen : xs.length = p := by have := hO.1; simpa using this
  rcases hO.2 with ⟨rfl, rfl⟩ | ⟨g, cap, cur, rfl, hb, hg, h1, h2, h3, h4⟩
  · refine (AnyF.slices_SortFunc_none { Tryz.sortVF with } none 0 (.func (.func 52) #[] #[]) w).mono ?_
    rintro e w' ⟨rfl, rfl⟩
    have : xs = [] := List.eq_nil_of_length_eq_zero hlen
    subst this
    exact ⟨rfl, [], hO, List.Perm.refl _, List.Pairwise.nil, World.grownBy.refl _ _⟩
  · obtain ⟨d, hd⟩ := attach_vals hv
    have hdl : d.length = p := by rw [← hlen, ← hd, List.length_map]
    have h4' : cur.toList.take (xs.map bs).length = (xs.map bs).map Go.Proofs.encStr := by rw [List.length_map, hlen, ← str_enc]; simpa using h4
    have hH := Go.holds_of_block hg h4'
    have hfm : ∀ x : Val, encV x = Go.Proofs.encStr (bs x.1) := fun x => rfl
    have hda : (d.toArray.map fun x : Val => bs x.1) = (xs.map bs).toArray := by
      rw [← hd, List.map_map]; simp
    have hH2 : Go.Sort.Holds encV w g 0 d.toArray := holds_map hfm (by rw [hda]; exact hH)
    have hlt : g < w.heap.size := (Array.getElem?_eq_some_iff.1 hg).1
    have hC := Any.slices_SortFunc Tryz.sortVF encV (fun _ => rfl) cfV swoV 52 #[] g 0 cap d.toArray w (enters_of Tryz.func52 (by kernel_rfl) rfl)
      (fun m os dk _ x y => (cmpV_lays _ x y).mono fun e w' ⟨he, q, hq⟩ => ⟨he, q, #[], by rw [hq, Go.Sort.grow_empty]⟩) hH2 hlt (by rw [List.size_toArray]; omega)
    rw [List.size_toArray, hdl] at hC
    refine hC.mono ?_
    rintro e w' ⟨rfl, d', n, os, hperm, hsort, rfl⟩
    obtain ⟨hp1, -, hp3⟩ := hperm
    have hds : d'.size = p := by rw [hp1, List.size_toArray, hdl]
    have hdp : d'.toList.Perm d := by
      have e1 : d'.extract 0 p = d' := by rw [← hds]; simp
      have e2 : d.toArray.extract 0 p = d.toArray := by rw [← hdl]; simp
      rw [e1, e2] at hp3
      simpa using hp3
    refine ⟨rfl, d'.toList.map Subtype.val, ?_, ?_, ?_, ?_⟩
    · have e3 : Go.Proofs.sortWorld encV w g 0 n d' os = Go.Sort.grow (Go.Sort.putRow Go.Proofs.encStr (Go.Sort.ahead w n) g 0 ((d'.toList.map fun x : Val => bs x.1).toArray)) os := by
        unfold Go.Proofs.sortWorld
        rw [putRow_map hfm, show (d'.map fun x : Val => bs x.1) = (d'.toList.map fun x : Val => bs x.1).toArray from Array.ext' (by simp)]
      rw [e3]
      have := Go.ownsRow_sorted (n := n) (os := os) (ss := xs.map bs) (ts := d'.toList.map fun x : Val => bs x.1) (by rw [List.length_map, List.length_map, Array.length_toList, hds, hlen]) hb hg (by rw [List.length_map, hlen]; exact h1) h2 h3
      rw [List.length_map, hlen, enc_str, show (d'.toList.map fun x : Val => bs x.1).map toB = d'.toList.map Subtype.val from by rw [List.map_map]; rfl] at this
      exact this
    · have := hdp.map Subtype.val
      rwa [hd] at this
    · rw [List.pairwise_map, List.pairwise_iff_getElem]
      intro i j hi hj hij
      have hjs : j < d'.size := by simpa using hj
      have his : i < d'.size := by simpa using hi
      have hq := hsort i j (Nat.zero_le _) hij (by omega)
      rw [getElem!_pos d' i his, getElem!_pos d' j hjs] at hq
      have hq2 : ¬ cmpM d'[j].1 d'[i].1 < 0 := of_decide_eq_false hq
      have := cmpM_anti d'[j].1 d'[i].1
      show cmpM (d'.toList[i]).1 (d'.toList[j]).1 ≤ 0
      rw [Array.getElem_toList, Array.getElem_toList]
      omega
    · have e3 : Go.Proofs.sortWorld encV w g 0 n d' os = Go.Sort.grow (Go.Sort.putRow Go.Proofs.encStr (Go.Sort.ahead w n) g 0 (d'.map fun x : Val => bs x.1)) os := by
        unfold Go.Proofs.sortWorld
        rw [putRow_map hfm]
      rw [e3]
      exact Go.grownBy_sorted _

/-! slices.Compact at strings -/
theorem owns_cut {w : World} {base g cap n m : Nat} {e : TypeId} {xs : List Value} (h : w.ownsRow base e 1 (.slice (some ⟨g, 0, none⟩) n cap) n xs) (hm : m ≤ n) : w.ownsRow base e 1 (.slice (some ⟨g, 0, none⟩) m cap) m (xs.take m) := by
  have hl := h.1
  rcases h.2 with ⟨q, _⟩ | ⟨g', c', cur, q, h1, h2, h3, h4, h5, h6⟩
  · cases q
  · injection q with q1 q2 q3
    injection q1 with q1
    injection q1 with q1
    subst q1 q3
    refine ⟨by rw [List.length_take]; omega, .inr ⟨g, cap, cur, rfl, h1, h2, by omega, h4, h5, ?_⟩⟩
    rw [← h6, List.take_take, Nat.mul_one, Nat.mul_one, Nat.min_eq_left hm]
theorem compact_any (v : Value) (p base : Nat) (xs : List ByteArray) (w : World) (hp : p ≤ 2097152) (hO : w.ownsRow base 27 1 v p (xs.map Value.string)) :
    Calls Tryz.prog 73 #[v] w fun e w' => ∃ B L c, e = .returned (.slice B L c) ∧ L = (compB2 xs).length ∧ w'.ownsRow base 27 1 (.slice B L c) L ((compB2 xs).map Value.string) ∧ w.grownBy w' v.ownBlock := by
  have hlen : xs.length = p := by have := hO.1; simpa using this
  rcases hO.2 with ⟨rfl, rfl⟩ | ⟨g, cap, cur, rfl, hb, hg, h1, h2, h3, h4⟩
  · refine (AnyG.slices_Compact_string_empty Tryz.compactV none 0 w).mono ?_
    rintro e w' ⟨rfl, rfl⟩
    have : xs = [] := List.eq_nil_of_length_eq_zero hlen
    subst this
    exact ⟨none, 0, 0, rfl, rfl, hO, World.grownBy.refl _ _⟩
  · have h4' : cur.toList.take (xs.map bs).length = (xs.map bs).map Go.Proofs.encStr := by rw [List.length_map, hlen, ← str_enc]; simpa using h4
    have hH := Go.holds_of_block hg h4'
    have hlt : g < w.heap.size := (Array.getElem?_eq_some_iff.1 hg).1
    have hC := AnyG.slices_Compact_string Tryz.compactV g 0 cap (xs.map bs) w hH (by rw [List.length_map]; omega) (by rw [List.length_map]; omega)
    rw [List.length_map, hlen] at hC
    refine hC.mono ?_
    rintro e w' ⟨rfl, q, rfl⟩
    have hcl : (Go.Lib.compact (xs.map bs)).length ≤ p := by
      rw [← hlen]
      unfold Go.Lib.compact Go.Lib.compactUpTo
      rw [List.length_map]
      refine Nat.le_trans (List.length_filter_le _ _) ?_
      rw [List.length_range, List.length_map]; exact Nat.le_refl _
    refine ⟨_, _, _, rfl, by unfold compB2; rw [List.length_map], ?_, ?_⟩
    · have := Go.ownsRow_sorted (n := q) (os := #[]) (ss := xs.map bs) (ts := Go.Lib.compact (xs.map bs) ++ List.replicate (p - (Go.Lib.compact (xs.map bs)).length) []) (by rw [List.length_append, List.length_replicate, List.length_map, hlen]; omega) hb hg (by rw [List.length_map, hlen]; exact h1) h2 h3
      rw [Go.Sort.grow_empty, List.length_map, hlen] at this
      have h5 := owns_cut this hcl
      rw [← List.map_take, List.take_left' rfl, enc_str] at h5
      exact h5
    · have := Go.grownBy_sorted (w := w) (g := g) (n := q) (os := #[]) (Go.Lib.compact (xs.map bs) ++ List.replicate (p - (Go.Lib.compact (xs.map bs)).length) []).toArray
      rw [Go.Sort.grow_empty] at this
      exact this

end Go.Proofs.YtmaboodfgmbdjaaGreatDoor
