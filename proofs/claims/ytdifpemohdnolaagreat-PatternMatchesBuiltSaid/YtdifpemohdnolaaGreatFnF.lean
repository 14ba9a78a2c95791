/- finset.merge at two ascending lists: what a selection keeps of both, ascending; collected over slices.Values; combined. Conditions: at most 524288 strings of at most 131072 bytes. -/
import Derived.Shelf.Spec.SlicesGrow
import Derived.Ground.Names8Prog
import Derived.Test.YtdifpemohdnolaaGreatProg
import Derived.Test.YtdifpemohdnolaaGreatFnA
import Derived.Test.YtdifpemohdnolaaGreatFnE
import Derived.BigQuiet
namespace Go.Proofs
open Go.Shelf
def Tryz.growV_ren : Go.Shelf.Ren := ⟨fun | 4 => 104 | n => n, fun | 22 => 24 | 25 => 23 | 3 => 3 | 4 => 4 | 9 => 9 | 20 => 20 | 0 => 0 | n => n, fun | n => n⟩
theorem Tryz.growV : Go.Proofs.Lays8.n4 Tryz.prog Tryz.growV_ren := {
  mixed := by kernel_rfl
  f4 := ⟨Tryz.f104.name, by decide, Tryz.func104.trans (congrArg some (by kernel_rfl))⟩
  t0 := Tryz.underlying0
  a0 := Tryz.isAgg0
  z0 := Tryz.sizeOf0
  v0 := Tryz.zeroValue0
  t3 := Tryz.underlying3
  a3 := Tryz.isAgg3
  z3 := Tryz.sizeOf3
  v3 := Tryz.zeroValue3
  t4 := Tryz.underlying4
  a4 := Tryz.isAgg4
  z4 := Tryz.sizeOf4
  v4 := Tryz.zeroValue4
  t9 := Tryz.underlying9
  a9 := Tryz.isAgg9
  z9 := Tryz.sizeOf9
  v9 := Tryz.zeroValue9
  t20 := Tryz.underlying20
  a20 := Tryz.isAgg20
  z20 := Tryz.sizeOf20
  v20 := Tryz.zeroValue20
  t22 := Tryz.underlying24
  a22 := Tryz.isAgg24
  z22 := Tryz.sizeOf24
  v22 := Tryz.zeroValue24 }
end Go.Proofs
namespace Go.Proofs.YtdifpemohdnolaaGreat
open Go.RowKit VM

theorem grow_any (n : Nat) (hn : n ≤ 4194304) (w : World) : Calls Tryz.prog 104 #[.slice none 0 0, .int .i64 (n : Int)] w fun e w' =>
    ∃ B cb, e = .returned (.slice B 0 cb) ∧ w'.ownsRow w.heap.size 23 1 (.slice B 0 cb) 0 [] ∧ Below w.heap.size w w' := by
  obtain ⟨i0, hi0, hiz0, hiz1, hiz2⟩ := info_parts val_info
  by_cases h0 : n = 0
  · subst h0
    refine (Any8.slices_Grow_room Tryz.growV none 0 0 0 w (by omega) (by omega) (by omega) (by omega)).mono ?_
    rintro e w' ⟨rfl, rfl⟩
    exact ⟨_, _, rfl, World.ownsRow_nil _ _ _ _, Below.refl _ _⟩
  · refine (Any8.slices_Grow_grow Tryz.growV i0 (.string ⟨#[]⟩) hi0 hiz0 (by rw [hiz1]; decide) none 0 0 n [] w (by omega) (by omega) (by rw [hiz2]; omega) (by omega) (by simp) (fun _ => rfl) (fun a h => by cases h)).mono ?_
    rintro e w' ⟨rfl, rfl⟩
    have hc1 := grownCap_le_maxLen w (0 + n) 0 (Tryz.growV_ren.t 25) (by unfold maxLen; omega)
    have hc2 := grownCap_ge w (0 + n) 0 (Tryz.growV_ren.t 25)
    generalize grownCap w (0 + n) 0 (Tryz.growV_ren.t 25) = gc at hc1 hc2 ⊢
    refine ⟨_, _, rfl, ⟨rfl, .inr ⟨w.heap.size, _, _, rfl, Nat.le_refl _, heap_alloc_new w.drew _, Nat.zero_le _, hc1, ?_, ?_⟩⟩, (below_drew (Below.refl _ _)).alloc (Nat.le_refl _) _⟩
    · have e1 : ∀ k, (Builtin.zeroCells (Value.string ⟨#[]⟩).cells k).size = k := fun k => by simp [Builtin.zeroCells, Value.cells]
      rw [Array.size_append, Array.size_append, e1, e1]
      simp
      omega
    · simp
set_option linter.unusedSimpArgs false in
set_option maxRecDepth 100000 in
set_option maxHeartbeats 6400000 in
theorem concat_any (a b : List ByteArray) (A B X : Option Addr) (n m ca cb cx : Nat) (w : World) (hn : n = a.length) (hm : m = b.length) (hn1 : n ≤ 1048576) (hm1 : m ≤ 1048576) (hA : InC w A (a.map Value.string)) (hB : InC w B (b.map Value.string)) (hX : InC w X [.slice A n ca, .slice B m cb]) :
    Calls Tryz.prog 91 #[.slice X 2 cx] w (RowR w (a ++ b)) := by
  obtain ⟨i0, hi0, hiz0, hiz1, hiz2⟩ := info_parts val_info
  have HA := hide hA
  have HBB := hide hB
  have HX := hide hX
  have HN := Lib.hid hn
  have HM := Lib.hid hm
  have HLA : Hid ((a.map Value.string).length = n * 1) := Lib.hid (by rw [List.length_map]; omega)
  have HLB : Hid ((b.map Value.string).length = m * 1) := Lib.hid (by rw [List.length_map]; omega)
  obtain ⟨bx, ox, hX1, hbx, hx0⟩ := at1s hX (i := 0) (u := .slice A n ca) rfl
  subst hX1
  have hx1 : w.cell? ⟨bx, ox + 1, none⟩ = some (.slice B m cb) := by
    obtain ⟨b', o', e, _, h⟩ := at1s hX (i := 1) (u := .slice B m cb) rfl
    injection e with e
    injection e with e1 e2 e3
    subst e1; subst e2
    exact h
  have HG := Lib.hid (fun k hk w => grow_any k hk w)
  rw [Nat.add_zero] at hx0
  clear hn hm hA hB hX
  go_enter Tryz.func91, Tryz.ntmps91
  go_wp2_with fail
  go_loopw [3, 11] (fun sv iv wr => Hid (wr = w) ∧ ((iv = .int .i64 0 ∧ sv = .int .i64 0) ∨ (iv = .int .i64 1 ∧ sv = .int .i64 (n : Int)) ∨ (iv = .int .i64 2 ∧ sv = .int .i64 ((n + m : Nat) : Int)))) (fun _ iv _ => 2 - (intOf iv).toNat)
  case atStart => exact ⟨rfl, .inl ⟨rfl, rfl⟩⟩
  case round =>
    obtain ⟨hw, hrel⟩ := hrel
    obtain rfl : w = wr := hw.out.symm
    obtain ⟨rfl, rfl⟩ | ⟨rfl, rfl⟩ | ⟨rfl, rfl⟩ := hrel
    · go_wp2_with fail
      go_roundw
      case rel => exact ⟨trivial, .inr (.inl ⟨rfl, by go_num⟩)⟩
      case measure => simp [intOf]
    · go_wp2_with fail
      go_roundw
      case rel => exact ⟨trivial, .inr (.inr ⟨rfl, by go_num⟩)⟩
      case measure => simp [intOf]
    · go_wp2_with fail
      refine (HG.out (n + m) (by omega) _).mono ?_
      rintro e w3 ⟨B3, c3, rfl, hO3, hb3⟩
      have HO3 := hide hO3
      have HB3 := hide hb3
      clear hO3 hb3
      go_wp2_with fail
      go_loopw [6, 27] (fun rv iv wr => Hid (Below w.heap.size w wr) ∧ ((iv = .int .i64 0 ∧ Hid (wr.ownsRow w.heap.size 23 1 rv 0 [])) ∨ (iv = .int .i64 1 ∧ Hid (wr.ownsRow w.heap.size 23 1 rv n (a.map Value.string))) ∨ (iv = .int .i64 2 ∧ Hid (wr.ownsRow w.heap.size 23 1 rv (n + m) ((a ++ b).map Value.string))))) (fun _ iv _ => 2 - (intOf iv).toNat)
      case atStart => exact ⟨unhide HB3, .inl ⟨rfl, unhide HO3⟩⟩
      case round =>
        obtain ⟨hB, ⟨rfl, hO⟩ | ⟨rfl, hO⟩ | ⟨rfl, hO⟩⟩ := hrel
        · obtain ⟨A4, c4, rfl⟩ := owns_form hO.out
          have y0 : wr.cell? ⟨bx, ox, none⟩ = some (.slice A n ca) := (hB.out.cell (p := ⟨bx, ox, none⟩) hbx).trans hx0
          have HR := hide ((unhide HA).below hB.out)
          have hsz := hB.out.size
          go_wp2_with (at_builtin; refine wpList_app _ rfl _ _ 24 rfl w.heap.size 23 i0 _ 1 16 Tryz.underlying24 hi0 hiz0 hiz1 hiz2 rfl (by decide) _ 0 [] rfl hO.out A n ca (a.map Value.string) rfl HLA.out (unhide HR) (str_one a) (by unfold maxLen; omega) (by omega) hsz ?_; intro v5 w5 hown5 hgrow5 _)
          have HB5 := hide (below_app hB.out hO.out hgrow5)
          have HO5 : Hid (w5.ownsRow w.heap.size 23 1 v5 n (a.map Value.string)) := hide (by have h := hown5; rw [Nat.zero_add, List.nil_append] at h; exact h)
          clear hown5 hgrow5
          go_wp2_with fail
          go_roundw
          case rel => exact ⟨unhide HB5, .inr (.inl ⟨by go_num, unhide HO5⟩)⟩
          case measure => simp [intOf]
        · obtain ⟨A4, c4, rfl⟩ := owns_form hO.out
          have y0 : wr.cell? ⟨bx, ox + 1, none⟩ = some (.slice B m cb) := (hB.out.cell (p := ⟨bx, ox + 1, none⟩) hbx).trans hx1
          have HR := hide ((unhide HBB).below hB.out)
          have hsz := hB.out.size
          go_wp2_with (at_builtin; refine wpList_app _ rfl _ _ 24 rfl w.heap.size 23 i0 _ 1 16 Tryz.underlying24 hi0 hiz0 hiz1 hiz2 rfl (by decide) _ n (a.map Value.string) rfl hO.out B m cb (b.map Value.string) rfl HLB.out (unhide HR) (str_one b) (by unfold maxLen; omega) (by omega) hsz ?_; intro v5 w5 hown5 hgrow5 _)
          have HB5 := hide (below_app hB.out hO.out hgrow5)
          have HO5 : Hid (w5.ownsRow w.heap.size 23 1 v5 (n + m) ((a ++ b).map Value.string)) := hide (by rw [List.map_append]; exact hown5)
          clear hown5 hgrow5
          go_wp2_with fail
          go_roundw
          case rel => exact ⟨unhide HB5, .inr (.inr ⟨by go_num, unhide HO5⟩)⟩
          case measure => simp [intOf]
        · obtain ⟨A4, c4, rfl⟩ := owns_form hO.out
          have HL : Hid (n + m = (a ++ b).length) := Lib.hid (by rw [List.length_append, HN.out, HM.out])
          go_wp2_with fail
          go_ret
          exact ⟨A4, c4, _, rfl, HL.out, hO.out, hB.out⟩
/-! Index, Contains -/
/-- where a string stands first -/
def idxB (x : ByteArray) : List ByteArray → Nat → Int
  | [], _ => -1
  | s :: r, i => if s = x then (i : Int) else idxB x r (i + 1)
theorem idxB_step {x : ByteArray} {ps : List ByteArray} {j : Nat} {u : ByteArray} (h : ps[j]? = some u) : idxB x (ps.drop j) j = if u = x then (j : Int) else idxB x (ps.drop (j + 1)) (j + 1) := by
  have hi : j < ps.length := (List.getElem?_eq_some_iff.1 h).1
  rw [List.drop_eq_getElem_cons hi]
  rw [List.getElem?_eq_getElem hi] at h
  rw [Option.some.inj h]; rfl
theorem idxB_has {x : ByteArray} : ∀ {ps : List ByteArray} {i : Nat}, (hasB x ps = true ∧ ∃ j, idxB x ps i = ((i + j : Nat) : Int) ∧ j < ps.length ∧ ps[j]? = some x ∧ x ∉ ps.take j) ∨ (hasB x ps = false ∧ idxB x ps i = -1)
  | [], i => .inr ⟨rfl, rfl⟩
  | s :: r, i => by
    by_cases e : s = x
    · refine .inl ⟨hasB_iff.2 (by simp [e]), 0, ?_, by simp, by simp [e], by simp⟩
      unfold idxB
      rw [if_pos e]; rfl
    · have hh : hasB x (s :: r) = hasB x r := by unfold hasB; simp [e]
      have hi : idxB x (s :: r) i = idxB x r (i + 1) := by
        show (if s = x then _ else _) = _
        rw [if_neg e]
      rw [hh, hi]
      rcases idxB_has (x := x) (ps := r) (i := i + 1) with ⟨h1, j, h2, h3, h4, h5⟩ | h
      · refine .inl ⟨h1, j + 1, by rw [h2]; congr 1; omega, by simp; omega, by simpa using h4, ?_⟩
        rw [List.take_succ_cons]
        intro q
        rcases List.mem_cons.1 q with q | q
        · exact e q.symm
        · exact h5 q
      · exact .inr h
theorem toList_bool (s t : ByteArray) : (s.toList == t.toList) = decide (t = s) := by
  rw [Bool.eq_iff_iff, beq_iff_eq, decide_eq_true_eq, ByteArray.toList_eq, ByteArray.toList_eq]
  exact ⟨fun h => (ByteArray.ext (Array.toList_inj.1 h)).symm, fun h => by rw [h]⟩
end Go.Proofs.YtdifpemohdnolaaGreat
namespace Go.Proofs.YtdifpemohdnolaaGreat
open Go.RowKit Go.Shelf VM

/-! what is merged -/
def mrg (K : Bool → Bool → Bool) (a b : List ByteArray) : List ByteArray := (sortM (a ++ b)).filter fun v => K (hasB v a) (hasB v b)
def inn2 (a : List ByteArray) (v : ByteArray) : Bool := hasB v a
theorem filt_self {a so : List ByteArray} (ha : Asc a) (hs : Asc so) (h : ∀ u ∈ a, u ∈ so) : so.filter (fun v => hasB v a) = a :=
  asc_unique (filter_asc _ hs) ha fun u => by
    rw [List.mem_filter, hasB_iff]
    exact ⟨fun q => q.2, fun q => ⟨h u q, q⟩⟩
/-- how many of a have come -/
def cnt (a so : List ByteArray) (k : Nat) : Nat := ((so.take k).filter fun v => hasB v a).length
theorem cnt_zero (a so : List ByteArray) : cnt a so 0 = 0 := rfl
theorem cnt_step {a so : List ByteArray} (ha : Asc a) (hs : Asc so) (h : ∀ u ∈ a, u ∈ so) {k : Nat} {v : ByteArray} (hk : so[k]? = some v) :
    (hasB v a = true ∧ cnt a so k < a.length ∧ a[cnt a so k]? = some v ∧ cnt a so (k + 1) = cnt a so k + 1) ∨
    (hasB v a = false ∧ cnt a so (k + 1) = cnt a so k ∧ (a.length ≤ cnt a so k ∨ ∃ u, cnt a so k < a.length ∧ a[cnt a so k]? = some u ∧ u ≠ v)) := by
  have hl : k < so.length := (List.getElem?_eq_some_iff.1 hk).1
  have e1 : so = so.take k ++ v :: so.drop (k + 1) := by
    conv => lhs; rw [← List.take_append_drop k so, List.drop_eq_getElem_cons hl]
    rw [List.getElem?_eq_getElem hl] at hk
    rw [Option.some.inj hk]
  have e2 : a = (so.take k).filter (fun v => hasB v a) ++ (v :: so.drop (k + 1)).filter (fun v => hasB v a) := by
    rw [← List.filter_append, ← e1, filt_self ha hs h]
  have e3 : so.take (k + 1) = so.take k ++ [v] := by rw [List.take_add_one, hk]; rfl
  have e5 : a[cnt a so k]? = ((v :: so.drop (k + 1)).filter (fun v => hasB v a))[0]? := by
    have e6 : a[cnt a so k]? = ((so.take k).filter (fun v => hasB v a) ++ (v :: so.drop (k + 1)).filter (fun v => hasB v a))[cnt a so k]? := by rw [← e2]
    rw [e6, List.getElem?_append_right (by unfold cnt; omega)]
    unfold cnt
    rw [Nat.sub_self]
  cases hv : hasB v a with
  | true =>
    refine .inl ⟨rfl, ?_⟩
    have e7 : a[cnt a so k]? = some v := by rw [e5, List.filter_cons_of_pos (by exact hv)]; rfl
    refine ⟨(List.getElem?_eq_some_iff.1 e7).1, e7, ?_⟩
    unfold cnt
    rw [e3, List.filter_append, List.length_append, List.filter_cons_of_pos (by exact hv)]; rfl
  | false =>
    refine .inr ⟨rfl, ?_, ?_⟩
    · unfold cnt
      rw [e3, List.filter_append, List.length_append, List.filter_cons_of_neg (by rw [hv]; simp)]; rfl
    · rw [List.filter_cons_of_neg (by rw [hv]; simp)] at e5
      cases hq : (so.drop (k + 1)).filter (fun v => hasB v a) with
      | nil =>
        rw [hq] at e5
        exact .inl (List.getElem?_eq_none_iff.1 e5)
      | cons u r =>
        rw [hq] at e5
        refine .inr ⟨u, (List.getElem?_eq_some_iff.1 e5).1, e5, ?_⟩
        rintro rfl
        have : u ∈ (so.drop (k + 1)).filter (fun v => hasB v a) := by rw [hq]; simp
        have := (List.mem_filter.1 this).2
        rw [hv] at this; cases this
theorem mrg_step (K : Bool → Bool → Bool) {a b so : List ByteArray} {k : Nat} {v : ByteArray} (hk : so[k]? = some v) : (so.take (k + 1)).filter (fun v => K (hasB v a) (hasB v b)) = (so.take k).filter (fun v => K (hasB v a) (hasB v b)) ++ (if K (hasB v a) (hasB v b) = true then [v] else []) := by
  rw [List.take_add_one, hk, List.filter_append]
  congr 1
  show [v].filter _ = _
  by_cases h : K (hasB v a) (hasB v b) = true
  · rw [List.filter_cons_of_pos (by exact h), if_pos h]; rfl
  · rw [List.filter_cons_of_neg (by exact h), if_neg h]; rfl

end Go.Proofs.YtdifpemohdnolaaGreat
