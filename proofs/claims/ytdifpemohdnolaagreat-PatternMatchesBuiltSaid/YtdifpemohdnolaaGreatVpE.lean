/- value.Map: the map of some keys and values. Conditions: at most 1048576 keys, as many values, all of at most 2^48 bytes; at most 524288 keys if they are values. -/
import Derived.Shelf.SlSortCmp.WholeK
import Derived.Ground.SlsfProg
import Derived.Test.YtdifpemohdnolaaGreatProg
import Derived.Test.YtdifpemohdnolaaGreatVpC
import Derived.Sort.OwnSorted
namespace Go.Proofs
open Go.Shelf
end Go.Proofs
namespace Go.Proofs.YtdifpemohdnolaaGreat
open Go.RowKit VM

/-! the model -/
abbrev Pr2 := ByteArray × ByteArray
def prC (p : Pr2) : List Value := [.string p.1, .string p.2]
theorem prC_len (p : Pr2) : (prC p).length = 2 := rfl
theorem insM_in {a : ByteArray} {L : List ByteArray} (h : Asc L) (ha : a ∈ L) : insM a L = L :=
  asc_unique (insM_asc h) h fun u => by rw [insM_mem]; exact ⟨fun q => q.elim (fun q => q ▸ ha) id, .inr⟩
theorem insM_new {a : ByteArray} : ∀ {L : List ByteArray}, a ∉ L → (insM a L).length = L.length + 1
  | [], _ => rfl
  | b :: l, h => by
    unfold insM
    split
    · rfl
    · split
      · rename_i e; subst e; exact absurd (List.mem_cons_self) h
      · rw [List.length_cons, insM_new (fun q => h (List.mem_cons_of_mem _ q)), List.length_cons]
theorem sortM_nodup : ∀ {l : List ByteArray}, (sortM l).length = l.length ↔ l.Nodup
  | [] => by simp [sortM]
  | a :: l => by
    have e : sortM (a :: l) = insM a (sortM l) := rfl
    have ih := sortM_nodup (l := l)
    have hl := sortM_len l
    rw [e, List.nodup_cons]
    by_cases ha : a ∈ l
    · rw [insM_in (sortM_asc l) (sortM_mem.2 ha), List.length_cons]
      exact ⟨fun q => by omega, fun q => absurd ha q.1⟩
    · rw [insM_new (fun q => ha (sortM_mem.1 q)), List.length_cons]
      exact ⟨fun q => ⟨ha, ih.1 (by omega)⟩, fun q => by rw [ih.2 q.2]⟩
theorem inn_perm {x : ByteArray} {zs ds : List Pr2} (h : ds.Perm zs) (hn : (zs.map Prod.fst).Nodup) : inn x ds = inn x zs := by
  unfold inn
  have hp : (ds.filter fun p => decide (p.1 = x)).Perm (zs.filter fun p => decide (p.1 = x)) := h.filter _
  have hone : ∀ {l : List Pr2}, (l.map Prod.fst).Nodup → (l.filter fun p => decide (p.1 = x)).length ≤ 1 := by
    intro l
    induction l with
    | nil => intro _; exact Nat.zero_le _
    | cons a l ih =>
      intro hnd
      rw [List.map_cons, List.nodup_cons] at hnd
      rw [List.filter_cons]
      split
      · rename_i hx
        have ha : a.1 = x := of_decide_eq_true hx
        have : l.filter (fun p => decide (p.1 = x)) = [] := List.filter_eq_nil_iff.2 fun p hp q => hnd.1 (by
          rw [ha, ← of_decide_eq_true q]; exact List.mem_map_of_mem hp)
        rw [this]; exact Nat.le_refl _
      · exact ih hnd.2
  have h1 := hone hn
  have h2 : (ds.filter fun p => decide (p.1 = x)) = (zs.filter fun p => decide (p.1 = x)) := by
    clear hone hn h
    generalize (zs.filter fun p => decide (p.1 = x)) = u at *
    generalize (ds.filter fun p => decide (p.1 = x)) = v at *
    cases u with
    | nil => exact List.Perm.eq_nil hp
    | cons a l =>
      cases l with
      | nil => exact List.perm_singleton.1 hp
      | cons b l => simp at h1
  rw [h2]
theorem mpL_self : ∀ {ds : List Pr2}, (ds.map Prod.fst).Nodup → mpL (ds.map Prod.fst) ds = ds.flatMap fun p => [p.1, p.2]
  | [], _ => rfl
  | p :: ds, h => by
    rw [List.map_cons, List.nodup_cons] at h
    have e : mpL (p.1 :: ds.map Prod.fst) (p :: ds) = inn p.1 (p :: ds) ++ mpL (ds.map Prod.fst) (p :: ds) := by unfold mpL; rw [List.flatMap_cons]
    rw [List.map_cons, e, mpL_cons (k := p.1) (v := p.2) h.1, mpL_self h.2, inn_cons, if_pos rfl, inn_none fun q hq e => h.1 (by rw [← e]; exact List.mem_map_of_mem hq), List.flatMap_cons]
    simp
/-- sorted pairs give the parts -/
theorem pairs_parts {zs ds : List Pr2} (h : ds.Perm zs) (hs : Asc (ds.map Prod.fst)) : sortM (zs.map Prod.fst) = ds.map Prod.fst ∧ mpL (sortM (zs.map Prod.fst)) zs = ds.flatMap fun p => [p.1, p.2] := by
  have hk := (sortM_eq (l := zs.map Prod.fst) hs fun u => (h.map Prod.fst).mem_iff).symm
  have hn : (zs.map Prod.fst).Nodup := (h.map Prod.fst).nodup_iff.1 (asc_nodup hs)
  refine ⟨hk, ?_⟩
  rw [hk, ← mpL_self (asc_nodup hs)]
  unfold mpL
  congr 1
  funext x
  exact (inn_perm h hn).symm
/-- the map of some keys and values, or the empty string -/
def mapP (ks vs : List ByteArray) : ByteArray := if ks.length = vs.length ∧ ks.all (valB 32) = true ∧ ks.Nodup then mkP 6 (mpL (sortM ks) (ks.zip vs)) else ⟨#[]⟩

/-! slices.SortFunc at pairs -/
abbrev VP := {p : Pr2 // valB 32 p.1 = true}
instance vpInh : Inhabited VP := ⟨⟨(⟨#[2, 0]⟩, ⟨#[]⟩), some_val⟩⟩
def encVP (x : VP) : List Value := prC x.1
def cfVP (x y : VP) : Int := cmpM x.1.1 y.1.1
theorem swoVP : Go.Sort.SWO (ltOf cfVP) where
  irrefl x := swoV.irrefl ⟨x.1.1, x.2⟩
  trans x y z h1 h2 := swoV.trans ⟨x.1.1, x.2⟩ ⟨y.1.1, y.2⟩ ⟨z.1.1, z.2⟩ h1 h2
  ntrans x y z h1 h2 := swoV.ntrans ⟨x.1.1, x.2⟩ ⟨y.1.1, y.2⟩ ⟨z.1.1, z.2⟩ h1 h2
end Go.Proofs.YtdifpemohdnolaaGreat
namespace Go.Proofs.YtdifpemohdnolaaGreat
open Go.RowKit VM

/-! rows of cells of any size -/
theorem holdsZ {w : World} {g : Nat} {cur : Array Value} {e : TypeId} {vs : List Value} (hb : w.heap[g]? = some (.cells cur e (0, 0))) (ht : cur.toList.take vs.length = vs) : Go.Sort.Holds id w g 0 vs.toArray := by
  intro j hj
  have hj' : j < vs.length := by simpa using hj
  refine ⟨?_, by simp [World.frozen?, hb]⟩
  have h1 : (cur.toList.take vs.length)[j]? = vs[j]? := by rw [ht]
  rw [List.getElem?_take_of_lt hj'] at h1
  simp only [World.cell?, hb, Nat.zero_add]
  simp only [Option.isSome_none, Bool.false_eq_true, if_false]
  rw [← Array.getElem?_toList, h1, List.getElem?_eq_getElem hj', getElem!_pos _ j hj]
  simp
theorem heapZ {w : World} {g n : Nat} {os : Array Obj} {cur : Array Value} {e : TypeId} {fr : Nat × Nat} (d : Array Value) (hb : w.heap[g]? = some (.cells cur e fr)) :
    (Go.Sort.grow (Go.Sort.putRow id (Go.Sort.ahead w n) g 0 d) os).heap[g]? = some (.cells (Go.Sort.putCells id 0 d cur) e fr) := by
  have hg : g < w.heap.size := (Array.getElem?_eq_some_iff.1 hb).1
  rw [Go.Sort.heap_grow_old _ _ (by simpa using hg)]
  simp [Go.Sort.putRow, Go.Sort.mapBlock, Go.Sort.ahead, Array.getElem?_modify, hb, Go.Sort.onCells]
theorem grownZ {w : World} {g n : Nat} {os : Array Obj} (d : Array Value) : w.grownBy (Go.Sort.grow (Go.Sort.putRow id (Go.Sort.ahead w n) g 0 d) os) (some g) := by
  refine ⟨rfl, rfl, rfl, by simp, fun k hk hne => ?_⟩
  rw [Go.Sort.heap_grow_old _ _ (by simpa using hk)]
  have : g ≠ k := fun e => hne (by rw [e])
  simp [Go.Sort.putRow, Go.Sort.mapBlock, Go.Sort.ahead, Array.getElem?_modify, this]
theorem takeZ (cur : Array Value) (ts : List Value) (h : ts.length ≤ cur.size) : (Go.Sort.putCells id 0 ts.toArray cur).toList.take ts.length = ts := by
  apply List.ext_getElem?
  intro j
  by_cases hj : j < ts.length
  · rw [List.getElem?_take_of_lt hj, Array.getElem?_toList]
    simp [Go.Sort.putCells, hj, show j < cur.size by omega]
  · rw [List.getElem?_take_eq_none (by omega), List.getElem?_eq_none (by omega)]
theorem ownsZ {w : World} {base g cap n m z : Nat} {e : TypeId} {os : Array Obj} {cur : Array Value} {ts : List Value} (hl : ts.length = m * z) (hbase : base ≤ g) (hb : w.heap[g]? = some (.cells cur e (0, 0)))
    (h1 : m ≤ cap) (h2 : cap ≤ maxLen) (h3 : cur.size = cap * z) :
    (Go.Sort.grow (Go.Sort.putRow id (Go.Sort.ahead w n) g 0 ts.toArray) os).ownsRow base e z (.slice (some ⟨g, 0, none⟩) m cap) m ts :=
  ⟨hl, .inr ⟨g, cap, _, rfl, hbase, heapZ _ hb, h1, h2, by simp [Go.Sort.putCells, h3], by rw [← hl]; exact takeZ cur ts (by rw [hl, h3]; exact Nat.mul_le_mul_right _ h1)⟩⟩
theorem flatK_list {α : Type} [Inhabited α] (f : α → List Value) (k : Nat) (hk : 0 < k) (hf : ∀ x, (f x).length = k) (d : Array α) : Go.Sort.flatK f k d = (d.toList.flatMap f).toArray := by
  apply Array.toList_inj.1
  apply List.ext_getElem?
  intro t
  have hl : (d.toList.flatMap f).length = d.size * k := by rw [flat_len hf]; simp
  by_cases ht : t < d.size * k
  · have h1 : t / k < d.size := Nat.div_lt_of_lt_mul (by rw [Nat.mul_comm]; exact ht)
    have h2 : t % k < (f d[t / k]).length := by rw [hf]; exact Nat.mod_lt _ hk
    have e := flat_at hf d.toList (t / k) d[t / k] (by simp [h1]) (t % k) _ (List.getElem?_eq_getElem h2)
    rw [Nat.div_add_mod' t k] at e
    show _ = (d.toList.flatMap f)[t]?
    rw [e, Array.getElem?_toList]
    have h3 := Go.Sort.get_flatK f k d t ht
    have h4 : t < (Go.Sort.flatK f k d).size := by rw [Go.Sort.size_flatK]; exact ht
    rw [getElem!_pos (Go.Sort.flatK f k d) t h4, getElem!_pos d (t / k) h1, getElem!_pos (f d[t / k]) (t % k) h2] at h3
    rw [Array.getElem?_eq_getElem h4, h3]
  · rw [List.getElem?_eq_none (by rw [Array.length_toList, Go.Sort.size_flatK]; omega), List.getElem?_eq_none (by show (d.toList.flatMap f).length ≤ t; omega)]

/-! SortFunc at pairs -/
theorem attach_prs {zs : List Pr2} (h : ∀ p ∈ zs, valB 32 p.1 = true) : ∃ d : List VP, d.map Subtype.val = zs := by
  induction zs with
  | nil => exact ⟨[], rfl⟩
  | cons a l ih =>
    obtain ⟨d, hd⟩ := ih fun s hs => h s (List.mem_cons_of_mem _ hs)
    exact ⟨⟨a, h a (by simp)⟩ :: d, by rw [List.map_cons, hd]⟩
theorem flat_prs (d : List VP) : d.flatMap encVP = (d.map Subtype.val).flatMap prC := by
  rw [List.flatMap_map]; rfl
theorem prs_len (zs : List Pr2) : (zs.flatMap prC).length = zs.length * 2 := flat_len prC_len zs
/-! allValid -/
end Go.Proofs.YtdifpemohdnolaaGreat
namespace Go.Proofs.YtdifpemohdnolaaGreat
open Go.RowKit VM

/-- the row of pairs, j of them set -/
def rowM (zs : List Pr2) (j : Nat) : List Value := (zs.take j).flatMap prC ++ List.replicate ((zs.length - j) * 2) (.string ⟨#[]⟩)
theorem rowM_zero (zs : List Pr2) : rowM zs 0 = List.replicate (zs.length * 2) (.string ⟨#[]⟩) := by unfold rowM; simp
theorem rowM_all (zs : List Pr2) : rowM zs zs.length = zs.flatMap prC := by
  unfold rowM
  rw [List.take_length, Nat.sub_self, Nat.zero_mul, List.replicate_zero, List.append_nil]
theorem rowM_len (zs : List Pr2) (j : Nat) (h : j ≤ zs.length) : (rowM zs j).length = zs.length * 2 := by
  unfold rowM
  rw [List.length_append, prs_len, List.length_take, List.length_replicate]; omega
theorem rowM_step {zs : List Pr2} {j : Nat} {k v : ByteArray} (h : zs[j]? = some (k, v)) : ((rowM zs j).set (j * 2) (.string k)).set (j * 2 + 1) (.string v) = rowM zs (j + 1) := by
  have hj : j < zs.length := (List.getElem?_eq_some_iff.1 h).1
  have hl : ((zs.take j).flatMap prC).length = j * 2 := by rw [prs_len, List.length_take]; omega
  unfold rowM
  rw [List.set_append_right _ _ (by omega), hl, Nat.sub_self, show (zs.length - j) * 2 = (zs.length - (j + 1)) * 2 + 1 + 1 by omega, List.replicate_succ, List.replicate_succ, List.set_cons_zero, List.set_append_right _ _ (by omega), hl, show j * 2 + 1 - j * 2 = 1 by omega, List.take_add_one, h, List.flatMap_append, List.append_assoc]
  rfl
theorem made_two (n : Nat) : (madeCells #[Value.string ⟨#[]⟩, Value.string ⟨#[]⟩] n).toList = List.replicate n (.string ⟨#[]⟩) := by
  rw [List.eq_replicate_iff]
  refine ⟨by rw [Array.length_toList, size_madeCells], fun b hb => ?_⟩
  unfold madeCells at hb
  rw [Array.toList_map] at hb
  obtain ⟨x, _, rfl⟩ := List.mem_map.1 hb
  show (#[Value.string ⟨#[]⟩, Value.string ⟨#[]⟩])[x % 2]! = _
  rcases Nat.mod_two_eq_zero_or_one x with e | e
  · rw [e]; rfl
  · rw [e]; rfl
theorem asc_snoc {l : List ByteArray} {x y : ByteArray} (h : Asc (l ++ [x])) (hxy : cmpM x y < 0) : Asc (l ++ [x] ++ [y]) := by
  refine List.pairwise_append.2 ⟨h, List.pairwise_singleton _ _, fun a ha b hb => ?_⟩
  rw [List.mem_singleton.1 hb]
  rcases List.mem_append.1 ha with ha | ha
  · exact cmpM_lt_le ((List.pairwise_append.1 h).2.2 a ha x (List.mem_singleton.2 rfl)) (by omega)
  · rw [List.mem_singleton.1 ha]; exact hxy
end Go.Proofs.YtdifpemohdnolaaGreat
